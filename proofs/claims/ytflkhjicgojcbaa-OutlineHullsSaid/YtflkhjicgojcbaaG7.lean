/- Plain geometry: the polygon that the merged steps of two outlines walk: its corners are sums, it holds all sums. It imports nothing of the program. -/
import Derived.Test.YtflkhjicgojcbaaG6
namespace Go.Proofs.Ytflkhjicgojcbaa.Geo

theorem add_comm (a b : XY) : add a b = add b a := by unfold add; ext <;> simp <;> omega
theorem add_assoc (a b c : XY) : add (add a b) c = add a (add b c) := by unfold add; ext <;> simp <;> omega
theorem add_zero (a : XY) : add a (0, 0) = a := by unfold add; simp
theorem zero_add (a : XY) : add (0, 0) a = a := by unfold add; simp
def tot : List XY → XY
  | [] => (0, 0)
  | z :: zs => add z (tot zs)
theorem tot_append (a b : List XY) : tot (a ++ b) = add (tot a) (tot b) := by
  induction a with
  | nil => rw [List.nil_append, tot, zero_add]
  | cons x a ih => rw [List.cons_append, tot, tot, ih, add_assoc]
theorem tot_merge (s t : List XY) : tot (merge s t) = add (tot s) (tot t) := by
  induction s, t using merge.induct with
  | case1 t => rw [merge, tot, zero_add]
  | case2 a s => rw [merge]; show _ = add _ (0, 0); rw [add_zero]
  | case3 a s b t hlt ih => rw [merge, if_pos hlt, tot, ih, ← add_assoc]; rfl
  | case4 a s b t hlt hgt ih =>
    rw [merge, if_neg hlt, if_pos hgt, tot, ih, tot, tot]
    unfold add; ext <;> simp <;> omega
  | case5 a s b t hlt hgt ih =>
    rw [merge, if_neg hlt, if_neg hgt, tot, ih, tot, tot]
    unfold add; ext <;> simp <;> omega
theorem tot_edges (P : Nat → XY) (k : Nat) : tot ((List.range k).map (edge P)) = sub (P k) (P 0) := by
  induction k with
  | zero => simp [tot, sub]
  | succ k ih =>
    rw [List.range_succ, List.map_append, tot_append, ih]
    simp only [List.map_cons, List.map_nil, tot]
    unfold edge sub add; ext <;> simp <;> omega
theorem tot_steps (o : List XY) : tot (stepsL o) = (0, 0) := by
  unfold stepsL
  have := tot_edges (At o) o.length
  rw [show (List.range o.length).map (fun i => edge (At o) i) = (List.range o.length).map (edge (At o)) from rfl, this]
  have e := At_per o 0
  rw [Nat.zero_add] at e
  rw [e]; unfold sub; ext <;> simp
def walkL : XY → List XY → List XY
  | _, [] => []
  | p, z :: zs => p :: walkL (add p z) zs
theorem walkL_len (p : XY) (zs : List XY) : (walkL p zs).length = zs.length := by
  induction zs generalizing p with
  | nil => rfl
  | cons z zs ih => rw [walkL, List.length_cons, List.length_cons, ih]
theorem X_walkL (p : XY) (zs : List XY) {k : Nat} (hk : k < zs.length) : X (walkL p zs) k = add p (tot (zs.take k)) := by
  induction zs generalizing p k with
  | nil => simp at hk
  | cons z zs ih =>
    cases k with
    | zero => simp [X, walkL, tot, add_zero]
    | succ k =>
      have : X (walkL p (z :: zs)) (k + 1) = X (walkL (add p z) zs) k := by unfold X; rw [walkL, List.getElem?_cons_succ]
      rw [this, ih _ (by simpa using hk), List.take_succ_cons, tot, add_assoc]

/-- the merged steps with how many steps of each list went ahead -/
def trip : Nat → Nat → List XY → List XY → List (Nat × Nat × XY)
  | _, _, [], [] => []
  | i, j, [], b :: t => (i, j, b) :: trip i (j + 1) [] t
  | i, j, a :: s, [] => (i, j, a) :: trip (i + 1) j s []
  | i, j, a :: s, b :: t => if 0 < cr a b then (i, j, a) :: trip (i + 1) j s (b :: t) else if cr a b < 0 then (i, j, b) :: trip i (j + 1) (a :: s) t else (i, j, add a b) :: trip (i + 1) (j + 1) s t
termination_by _ _ s t => s.length + t.length
theorem trip_z (i j : Nat) (s t : List XY) : (trip i j s t).map (fun q => q.2.2) = merge s t := by
  induction i, j, s, t using trip.induct with
  | case1 i j => rw [trip, merge]; rfl
  | case2 i j b t ih => rw [trip, List.map_cons, ih, merge, merge]
  | case3 i j a s ih => rw [trip, List.map_cons, ih, merge_nil, merge]
  | case4 i j a s b t hlt ih => rw [trip, if_pos hlt, List.map_cons, ih, merge, if_pos hlt]
  | case5 i j a s b t hlt hgt ih => rw [trip, if_neg hlt, if_pos hgt, List.map_cons, ih, merge, if_neg hlt, if_pos hgt]
  | case6 i j a s b t hlt hgt ih => rw [trip, if_neg hlt, if_neg hgt, List.map_cons, ih, merge, if_neg hlt, if_neg hgt]
theorem drop_cons {o : List XY} {i : Nat} {a : XY} {s : List XY} (h : a :: s = (stepsL o).drop i) : i < o.length ∧ a = edge (At o) i ∧ s = (stepsL o).drop (i + 1) := by
  have hi : i < o.length := by
    refine Decidable.byContradiction fun hn => ?_
    rw [List.drop_eq_nil_of_le (by rw [stepsL_len]; omega)] at h
    cases h
  rw [stepsL_drop o hi] at h
  injection h with h1 h2
  exact ⟨hi, h1, h2⟩
theorem drop_nil {o : List XY} {i : Nat} (h : [] = (stepsL o).drop i) : o.length ≤ i := by
  refine Decidable.byContradiction fun hn => ?_
  rw [stepsL_drop o (by omega)] at h
  cases h
theorem add_edge_l (P : Nat → XY) (i : Nat) (b : XY) : add (add (P i) b) (edge P i) = add (P (i + 1)) b := by
  unfold edge add sub; ext <;> simp <;> omega
theorem add_edge_r (P : Nat → XY) (i : Nat) (b : XY) : add (add b (P i)) (edge P i) = add b (P (i + 1)) := by
  unfold edge add sub; ext <;> simp <;> omega
theorem add_edge_b (P R : Nat → XY) (i j : Nat) : add (add (P i) (R j)) (add (edge P i) (edge R j)) = add (P (i + 1)) (R (j + 1)) := by
  unfold edge add sub; ext <;> simp <;> omega
theorem trip_walk (o p : List XY) (i j : Nat) (s t : List XY) (hs : s = (stepsL o).drop i) (ht : t = (stepsL p).drop j) :
    walkL (add (At o i) (At p j)) (merge s t) = (trip i j s t).map (fun q => add (At o q.1) (At p q.2.1)) := by
  induction i, j, s, t using trip.induct with
  | case1 i j => rw [trip, merge, walkL]; rfl
  | case2 i j b t ih =>
    obtain ⟨_, hb, ht'⟩ := drop_cons ht
    have := ih hs ht'
    rw [merge] at this
    rw [trip, merge, walkL, List.map_cons, ← this, hb, add_edge_r]
  | case3 i j a s ih =>
    obtain ⟨_, ha, hs'⟩ := drop_cons hs
    have := ih hs' ht
    rw [merge_nil] at this
    rw [trip, merge, walkL, List.map_cons, ← this, ha, add_edge_l]
  | case4 i j a s b t hlt ih =>
    obtain ⟨_, ha, hs'⟩ := drop_cons hs
    rw [trip, if_pos hlt, merge, if_pos hlt, walkL, List.map_cons, ← ih hs' ht]
    rw [ha, add_edge_l]
  | case5 i j a s b t hlt hgt ih =>
    obtain ⟨_, hb, ht'⟩ := drop_cons ht
    rw [trip, if_neg hlt, if_pos hgt, merge, if_neg hlt, if_pos hgt, walkL, List.map_cons, ← ih hs ht']
    rw [hb, add_edge_r]
  | case6 i j a s b t hlt hgt ih =>
    obtain ⟨_, ha, hs'⟩ := drop_cons hs
    obtain ⟨_, hb, ht'⟩ := drop_cons ht
    rw [trip, if_neg hlt, if_neg hgt, merge, if_neg hlt, if_neg hgt, walkL, List.map_cons, ← ih hs' ht']
    rw [ha, hb, add_edge_b]

theorem ale_add_r {x a b : XY} (nb : Nz b) (h : up a ↔ up b) (h1 : ale x a) (h2 : ale x b) : ale x (add a b) := by
  have hu := up_add nb h
  rcases h1 with ⟨h1, k1⟩ | ⟨h1, k1⟩
  · exact .inl ⟨h1, fun h => k1 (hu.1 h)⟩
  · rcases h2 with ⟨h2, k2⟩ | ⟨h2, k2⟩
    · exact absurd (h.1 (h1.1 h2)) k2
    · exact .inr ⟨h1.trans hu.symm, by rw [cr_add_r]; omega⟩
theorem Std.sup_self {o : List XY} (h : Std o) (i : Nat) : Sup o i (edge (At o) i) := fun _ hq => h.rg.left h.h3 i hq
theorem Mg.tail2 {b : XY} {t : List XY} (h : Mg [] (b :: t)) : Mg [] t :=
  ⟨.nil, (List.pairwise_cons.1 h.pt).2, trivial, h.ct.tail, fun _ ha => absurd ha List.not_mem_nil, fun a ha => h.nt a (List.mem_cons_of_mem _ ha), fun _ _ ha _ => by simp at ha⟩
theorem Mg.tail1 {a : XY} {s : List XY} (h : Mg (a :: s) []) : Mg s [] := h.symm.tail2.symm
theorem trip_sup {o p : List XY} (ho : Std o) (hp : Std p) (i j : Nat) (s t : List XY) (hs : s = (stepsL o).drop i) (ht : t = (stepsL p).drop j) (hi : i ≤ o.length) (hj : j ≤ p.length) (hM : Mg s t)
    (A : 0 < i → ∀ b, b ∈ t → ale (edge (At o) (i - 1)) b) (B : 0 < j → ∀ a, a ∈ s → ale (edge (At p) (j - 1)) a) :
    ∀ q, q ∈ trip i j s t → Nz q.2.2 ∧ Sup o q.1 q.2.2 ∧ Sup p q.2.1 q.2.2 := by
  induction i, j, s, t using trip.induct with
  | case1 i j => intro q hq; rw [trip] at hq; exact absurd hq List.not_mem_nil
  | case2 i j b t ih =>
    intro q hq
    obtain ⟨hjl, hb, ht'⟩ := drop_cons ht
    have hil := drop_nil hs
    rw [trip] at hq
    rcases List.mem_cons.1 hq with rfl | hq
    · have nb := hM.nt b (List.mem_cons_self ..)
      refine ⟨nb, ho.sup_ale hi nb (fun h0 => A h0 b (List.mem_cons_self ..)) (fun h => by omega), ?_⟩
      rw [hb]; exact hp.sup_self j
    · exact ih hs ht' hi hjl hM.tail2 (fun h0 c hc => A h0 c (List.mem_cons_of_mem _ hc)) (fun _ c hc => absurd hc List.not_mem_nil) q hq
  | case3 i j a s ih =>
    intro q hq
    obtain ⟨hil, ha, hs'⟩ := drop_cons hs
    have hjl := drop_nil ht
    rw [trip] at hq
    rcases List.mem_cons.1 hq with rfl | hq
    · have na := hM.ns a (List.mem_cons_self ..)
      refine ⟨na, ?_, hp.sup_ale hj na (fun h0 => B h0 a (List.mem_cons_self ..)) (fun h => by omega)⟩
      rw [ha]; exact ho.sup_self i
    · exact ih hs' ht hil hj hM.tail1 (fun _ c hc => absurd hc List.not_mem_nil) (fun h0 c hc => B h0 c (List.mem_cons_of_mem _ hc)) q hq
  | case4 i j a s b t hlt ih =>
    intro q hq
    obtain ⟨hil, ha, hs'⟩ := drop_cons hs
    obtain ⟨hjl, hb, ht'⟩ := drop_cons ht
    have na := hM.ns a (List.mem_cons_self ..)
    have nb := hM.nt b (List.mem_cons_self ..)
    have hab := hM.lt hlt
    rw [trip, if_pos hlt] at hq
    rcases List.mem_cons.1 hq with rfl | hq
    · refine ⟨na, ?_, hp.sup_ale hj na (fun h0 => B h0 a (List.mem_cons_self ..)) (fun _ => by rw [← hb]; exact hab.le)⟩
      rw [ha]; exact ho.sup_self i
    · refine ih hs' ht hil hj (hM.step hlt) (fun _ c hc => ?_) (fun h0 c hc => B h0 c (List.mem_cons_of_mem _ hc)) q hq
      rw [Nat.add_sub_cancel, ← ha]
      rcases List.mem_cons.1 hc with rfl | hc'
      · exact hab.le
      · exact (ang_trans na nb (hM.nt c hc) hab ((List.pairwise_cons.1 hM.pt).1 c hc')).le
  | case5 i j a s b t hlt hgt ih =>
    intro q hq
    obtain ⟨hil, ha, hs'⟩ := drop_cons hs
    obtain ⟨hjl, hb, ht'⟩ := drop_cons ht
    have na := hM.ns a (List.mem_cons_self ..)
    have nb := hM.nt b (List.mem_cons_self ..)
    have hba := hM.symm.lt (by have := cr_flip a b; omega)
    rw [trip, if_neg hlt, if_pos hgt] at hq
    rcases List.mem_cons.1 hq with rfl | hq
    · refine ⟨nb, ho.sup_ale hi nb (fun h0 => A h0 b (List.mem_cons_self ..)) (fun _ => by rw [← ha]; exact hba.le), ?_⟩
      rw [hb]; exact hp.sup_self j
    · refine ih hs ht' hi hjl (hM.step2 hgt) (fun h0 c hc => A h0 c (List.mem_cons_of_mem _ hc)) (fun _ c hc => ?_) q hq
      rw [Nat.add_sub_cancel, ← hb]
      rcases List.mem_cons.1 hc with rfl | hc'
      · exact hba.le
      · exact (ang_trans nb na (hM.ns c hc) hba ((List.pairwise_cons.1 hM.ps).1 c hc')).le
  | case6 i j a s b t hlt hgt ih =>
    intro q hq
    obtain ⟨hil, ha, hs'⟩ := drop_cons hs
    obtain ⟨hjl, hb, ht'⟩ := drop_cons ht
    have na := hM.ns a (List.mem_cons_self ..)
    have nb := hM.nt b (List.mem_cons_self ..)
    have he : cr a b = 0 := by omega
    have hu := hM.eq he
    have fe := cr_flip a b
    have hua := up_add nb hu
    rw [trip, if_neg hlt, if_neg hgt] at hq
    rcases List.mem_cons.1 hq with rfl | hq
    · have nz := nz_add na nb hu
      refine ⟨nz, ho.sup_ale hi nz (fun h0 => ale_add_r nb hu ?_ (A h0 b (List.mem_cons_self ..))) (fun _ => ?_), hp.sup_ale hj nz (fun h0 => ale_add_r nb hu (B h0 a (List.mem_cons_self ..)) ?_) (fun _ => ?_)⟩
      · rw [ha]; exact (ho.sorted (by omega) hil).le
      · rw [← ha]; exact .inr ⟨hua, by rw [cr_add_l, cr_self]; omega⟩
      · rw [hb]; exact (hp.sorted (by omega) hjl).le
      · rw [← hb]; exact .inr ⟨hua.trans hu, by rw [cr_add_l, cr_self]; omega⟩
    · refine ih hs' ht' hil hjl (hM.both he) (fun _ c hc => ?_) (fun _ c hc => ?_) q hq
      · rw [Nat.add_sub_cancel, ← ha]
        exact (par_ang nb na (hM.nt c (List.mem_cons_of_mem _ hc)) hu.symm (by omega) ((List.pairwise_cons.1 hM.pt).1 c hc)).le
      · rw [Nat.add_sub_cancel, ← hb]
        exact (par_ang na nb (hM.ns c (List.mem_cons_of_mem _ hc)) hu he ((List.pairwise_cons.1 hM.ps).1 c hc)).le

/-- each step lies in the direction of a merged one -/
theorem merge_cover {s t : List XY} (h : Mg s t) : ∀ a, a ∈ s → ∃ z, z ∈ merge s t ∧ (up a ↔ up z) ∧ cr a z = 0 := by
  induction s, t using merge.induct with
  | case1 t => intro c hc; exact absurd hc List.not_mem_nil
  | case2 a s => intro c hc; exact ⟨c, by rw [merge]; exact hc, Iff.rfl, cr_self c⟩
  | case3 a s b t hlt ih =>
    intro c hc
    rw [merge, if_pos hlt]
    rcases List.mem_cons.1 hc with rfl | hc
    · exact ⟨_, List.mem_cons_self .., Iff.rfl, cr_self _⟩
    · obtain ⟨z, hz, h1, h2⟩ := ih (h.step hlt) c hc
      exact ⟨z, List.mem_cons_of_mem _ hz, h1, h2⟩
  | case4 a s b t hlt hgt ih =>
    intro c hc
    rw [merge, if_neg hlt, if_pos hgt]
    obtain ⟨z, hz, h1, h2⟩ := ih (h.step2 hgt) c hc
    exact ⟨z, List.mem_cons_of_mem _ hz, h1, h2⟩
  | case5 a s b t hlt hgt ih =>
    intro c hc
    have he : cr a b = 0 := by omega
    rw [merge, if_neg hlt, if_neg hgt]
    rcases List.mem_cons.1 hc with rfl | hc
    · exact ⟨_, List.mem_cons_self .., (up_add (h.nt _ (List.mem_cons_self ..)) (h.eq he)).symm, by rw [cr_add_r, cr_self]; omega⟩
    · obtain ⟨z, hz, h1, h2⟩ := ih (h.both he) c hc
      exact ⟨z, List.mem_cons_of_mem _ hz, h1, h2⟩
theorem ale_par_r {x z a : XY} (na : Nz a) (nz : Nz z) (hu : up a ↔ up z) (hc : cr a z = 0) (h : ale x z) : ale x a := by
  rcases h with ⟨h1, h2⟩ | ⟨h1, h2⟩
  · exact .inl ⟨h1, fun h => h2 (hu.1 h)⟩
  · refine .inr ⟨h1.trans hu.symm, Decidable.byContradiction fun hn => ?_⟩
    have f1 := cr_flip x a
    have f2 := cr_flip x z
    have := par_pos na nz hu hc (c := x) (by omega)
    omega
theorem ale_par_l {x z a : XY} (na : Nz a) (nz : Nz z) (hu : up a ↔ up z) (hc : cr a z = 0) (h : ale z x) : ale a x := by
  rcases h with ⟨h1, h2⟩ | ⟨h1, h2⟩
  · exact .inl ⟨hu.2 h1, h2⟩
  · refine .inr ⟨hu.trans h1, Decidable.byContradiction fun hn => ?_⟩
    have f1 := cr_flip x a
    have f2 := cr_flip x z
    have e1 := cr_neg_r a x
    have e2 := cr_neg_r z x
    have := par_pos na nz hu hc (c := neg x) (by omega)
    omega
theorem ale_refl (a : XY) : ale a a := .inr ⟨Iff.rfl, by rw [cr_self]; omega⟩
theorem ch_get {l : List XY} (h : Ch l) {i : Nat} {a b : XY} (ha : l[i]? = some a) (hb : l[i + 1]? = some b) : 0 < cr a b := by
  induction l generalizing i with
  | nil => simp at ha
  | cons c l ih =>
    cases i with
    | zero =>
      simp at ha
      subst ha
      rw [List.getElem?_cons_succ, ← List.head?_eq_getElem?] at hb
      exact h.head b hb
    | succ i =>
      rw [List.getElem?_cons_succ] at ha hb
      exact ih h.tail ha hb
end Go.Proofs.Ytflkhjicgojcbaa.Geo
