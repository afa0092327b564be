/- Plain: two sides that take over what the other one has alone. -/
import Derived.Test.YtalfffkcmddakaaP10
namespace Go.Proofs.Ytalfffkcmddakaa.Pl

/-- what an entry adds to the balance of a day -/
def gd (d : Int) (e : En) : Int := if e.d ≤ d then ef e else 0
theorem gd_z0 (d : Int) : gd d z0 = 0 := by
  unfold gd
  split <;> rfl
theorem bal_sum (d : Int) (l : List En) : bal d l = (l.map (gd d)).sum := by
  refine snoc_ind (P := fun l => bal d l = (l.map (gd d)).sum) rfl ?_ l
  intro l e ih
  rw [bal_snoc, List.map_append, List.sum_append, ← ih]
  simp [gd]
  split <;> omega
theorem sum_split {α : Type} (p : α → Bool) (f : α → Int) (l : List α) : ((l.filter p).map f).sum + ((l.filter fun x => !p x).map f).sum = (l.map f).sum := by
  induction l with
  | nil => rfl
  | cons x l ih => cases h : p x <;> simp [h] <;> omega
theorem sum_perm {α : Type} {a b : List α} (f : α → Int) (h : a.Perm b) : (a.map f).sum = (b.map f).sum := by
  induction h with
  | nil => rfl
  | cons x _ ih => simp [ih]
  | swap x y l => simp; omega
  | trans _ _ h1 h2 => exact h1.trans h2
theorem sum_zero {α : Type} (f : α → Int) (l : List α) (h : ∀ x, x ∈ l → f x = 0) : (l.map f).sum = 0 := by
  induction l with
  | nil => rfl
  | cons x l ih => simp [h x (List.mem_cons_self ..), ih fun y hy => h y (List.mem_cons_of_mem _ hy)]
theorem sum_fm {α β : Type} (f : α → Option β) (g : β → Int) (l : List α) : ((l.filterMap f).map g).sum = (l.map fun x => ((f x).map g).getD 0).sum := by
  induction l with
  | nil => rfl
  | cons x l ih =>
    cases hf : f x with
    | none => rw [List.filterMap_cons_none hf, List.map_cons, List.sum_cons, hf, ih]; simp
    | some y => rw [List.filterMap_cons_some hf, List.map_cons, List.sum_cons, List.map_cons, List.sum_cons, hf, ih]; simp
/-- what Compare takes from a book's balance -/
def tk (d : Int) (L : List Df) : Int := (L.map fun x => gd d x.m).sum
def tt (d : Int) (L : List Df) : Int := (L.map fun x => gd d x.t).sum
theorem adds_mine {a b : List En} (ha : Vb a) (hb : Vb b) (d : Int) : bal d a = bal d (agr a b) + tk d (dif a b) := by
  have h1 : tk d (dif a b) = ((a.filter fun e => !decide (gt b (nm e) = e)).map (gd d)).sum := by
    unfold tk
    rw [dif_names, sum_fm]
    have e1 : (((al a b).map nm).map fun n => ((dfo a b n).map fun x => gd d x.m).getD 0).sum = ((a.map nm).map fun n => ((dfo a b n).map fun x => gd d x.m).getD 0).sum := by
      rw [← sum_split (fun n => decide (n ∈ a.map nm)) _ ((al a b).map nm)]
      have hp : (((al a b).map nm).filter fun n => decide (n ∈ a.map nm)).Perm (a.map nm) :=
        (List.perm_ext_iff_of_nodup ((al_nodup a b).filter _) ha.dif).2 fun n => by
          rw [List.mem_filter, al_nm ha hb, decide_eq_true_iff]
          exact ⟨fun h => h.2, fun h => ⟨.inl h, h⟩⟩
      rw [sum_perm _ hp, sum_zero _ (((al a b).map nm).filter fun n => !decide (n ∈ a.map nm)), Int.add_zero]
      intro n hn
      have hn := (List.mem_filter.1 hn).2
      rw [Bool.not_eq_true', decide_eq_false_iff_not] at hn
      unfold dfo
      rw [gt_none hn]
      split
      · rfl
      · simp [gd_z0]
    rw [e1, List.map_map, ← sum_split (fun e => decide (gt b (nm e) = e)) _ a]
    rw [sum_zero _ (a.filter fun e => decide (gt b (nm e) = e)), Int.zero_add]
    · refine congrArg List.sum (List.map_congr_left fun e he => ?_)
      obtain ⟨he1, he2⟩ := List.mem_filter.1 he
      rw [Bool.not_eq_true', decide_eq_false_iff_not] at he2
      show ((dfo a b (nm e)).map fun x => gd d x.m).getD 0 = gd d e
      unfold dfo
      rw [gt_mem ha he1, if_neg (fun h => he2 h.symm)]
      rfl
    · intro e he
      obtain ⟨he1, he2⟩ := List.mem_filter.1 he
      have he2 := of_decide_eq_true he2
      show ((dfo a b (nm e)).map fun x => gd d x.m).getD 0 = 0
      unfold dfo
      rw [gt_mem ha he1, if_pos he2.symm]
      rfl
  rw [h1, bal_sum, bal_sum, ← sum_split (fun e => decide (gt b (nm e) = e)) _ a]
  congr 1
  exact (sum_perm _ ((srt_perm a).filter _)).symm
theorem adds_theirs {a b : List En} (ha : Vb a) (hb : Vb b) (d : Int) : bal d b = bal d (agr a b) + tt d (dif a b) := by
  rw [agr_swap ha hb, adds_mine hb ha d, dif_swap ha hb]
  congr 1
  unfold tk tt
  rw [List.map_map]
  rfl
theorem tk_snoc (d : Int) (L : List Df) (x : Df) : tk d (L ++ [x]) = tk d L + gd d x.m := by unfold tk; simp
theorem tt_snoc (d : Int) (L : List Df) (x : Df) : tt d (L ++ [x]) = tt d L + gd d x.t := by unfold tt; simp
theorem tk_take {d : Int} {L : List Df} {k : Nat} (hk : k < L.length) : tk d (L.take (k + 1)) = tk d (L.take k) + gd d L[k].m := by rw [List.take_succ_eq_append_getElem hk, tk_snoc]
theorem tt_take {d : Int} {L : List Df} {k : Nat} (hk : k < L.length) : tt d (L.take (k + 1)) = tt d (L.take k) + gd d L[k].t := by rw [List.take_succ_eq_append_getElem hk, tt_snoc]
theorem gd_bound {d : Int} {e : En} (h : e = z0 ∨ vE e = true) : -1000000000 ≤ gd d e ∧ gd d e ≤ 1000000000 := by
  rcases h with rfl | h
  · rw [gd_z0]; omega
  · have := ef_bound h
    unfold gd
    split <;> omega
theorem tk_bound (d : Int) {L : List Df} (h : ∀ x, x ∈ L → x.m = z0 ∨ vE x.m = true) : ∀ k, k ≤ L.length → -(k * 1000000000) ≤ tk d (L.take k) ∧ tk d (L.take k) ≤ k * 1000000000
  | 0, _ => by rw [List.take_zero]; simp [tk]
  | k + 1, hk => by
    have ih := tk_bound d h k (by omega)
    have hc := gd_bound (d := d) (h _ (List.getElem_mem (show k < L.length by omega)))
    rw [tk_take (show k < L.length by omega)]
    omega
theorem tt_bound (d : Int) {L : List Df} (h : ∀ x, x ∈ L → x.t = z0 ∨ vE x.t = true) : ∀ k, k ≤ L.length → -(k * 1000000000) ≤ tt d (L.take k) ∧ tt d (L.take k) ≤ k * 1000000000
  | 0, _ => by rw [List.take_zero]; simp [tt]
  | k + 1, hk => by
    have ih := tt_bound d h k (by omega)
    have hc := gd_bound (d := d) (h _ (List.getElem_mem (show k < L.length by omega)))
    rw [tt_take (show k < L.length by omega)]
    omega
/-- a book that takes over entries one by one -/
def tov (b : List En) (F : List En) : List En := F.foldl (fun b x => srt (b ++ [x])) b
theorem tov_take {b F : List En} {k : Nat} (hk : k < F.length) : tov b (F.take (k + 1)) = srt (tov b (F.take k) ++ [F[k]]) := by
  unfold tov
  rw [List.take_succ_eq_append_getElem hk, List.foldl_append]; rfl
theorem tov_perm (b F : List En) : (tov b F).Perm (b ++ F) := by
  refine snoc_ind (P := fun F => (tov b F).Perm (b ++ F)) (by simp [tov]) ?_ F
  intro F x ih
  have : tov b (F ++ [x]) = srt (tov b F ++ [x]) := by unfold tov; rw [List.foldl_append]; rfl
  rw [this, ← List.append_assoc]
  exact (srt_perm _).trans (ih.append_right _)
/-- entries of a book that another one lacks can be taken over, one by one -/
theorem tov_ok {b F J : List En} (hJ : Vb J) (hF : F.Sublist J) (hb : Vb b) (hd : ((b ++ F).map nm).Nodup) (hl : b.length + F.length ≤ 200) {k : Nat} (hk : k < F.length) : adE (tov b (F.take k)) F[k] = 0 := by
  have hp := tov_perm b (F.take k)
  have hs : (b ++ F.take k).Sublist (b ++ F) := (List.Sublist.refl b).append (List.take_sublist k F)
  have hvb : Vb (b ++ F.take k) := ⟨by have := hs.length_le; simp at this ⊢; omega, fun e he => by
    rcases List.mem_append.1 he with he | he
    · exact hb.each e he
    · exact hJ.each e (hF.mem (List.mem_of_mem_take he)), hd.sublist (hs.map nm)⟩
  refine ad_ok.2 ⟨vb_iff.2 (hvb.perm hp.symm), hJ.each _ (hF.mem (List.getElem_mem hk)), ?_, ?_⟩
  · rw [fnd_perm ((hvb.perm hp.symm).dif) hp, fnd_none']
    intro hm
    have h1 : (b ++ F.take (k + 1)).Sublist (b ++ F) := (List.Sublist.refl b).append (List.take_sublist (k + 1) F)
    have h2 := hd.sublist (h1.map nm)
    rw [List.take_succ_eq_append_getElem hk, ← List.append_assoc, List.map_append, List.nodup_append] at h2
    exact h2.2.2 _ hm _ (by simp) rfl
  · rw [hp.length_eq, List.length_append, List.length_take]; omega
theorem one_all {a b : List En} (ha : Vb a) (hb : Vb b) (ho : oth a b = []) (n : Nm) : one a b n :=
  Classical.byContradiction fun h => by
    have := (oth_nm ha hb).2 h
    rw [ho] at this
    cases this
/-- one side takes over what the other one has alone -/
theorem over {a b : List En} (ha : Vb a) (hb : Vb b) (hl : (jn a b).length ≤ 200) (ho : oth a b = []) :
    Vb (jn a b) ∧ (∀ k (hk : k < (snc a (jn a b)).length), adE (tov a ((snc a (jn a b)).take k)) (snc a (jn a b))[k] = 0) ∧ Vb (tov a (snc a (jn a b))) ∧ srt (tov a (snc a (jn a b))) = jn a b := by
  have hm : ∀ e, e ∈ jn a b ↔ e ∈ a ∨ e ∈ b := fun e => by rw [jn_mem ha hb]; exact ⟨fun h => h.1, fun h => ⟨h, one_all ha hb ho _⟩⟩
  have hJ : Vb (jn a b) := ⟨hl, fun e he => ((hm e).1 he).elim (ha.each e) (hb.each e), asc_nodup (jn_asc a b)⟩
  have hF : (snc a (jn a b)).Sublist (jn a b) := by
    have : (snc a (jn a b)).Sublist (srt (jn a b)) := List.filter_sublist
    rwa [asc_srt (jn_asc a b)] at this
  have hdis : ((a ++ snc a (jn a b)).map nm).Nodup := by
    rw [List.map_append, List.nodup_append]
    refine ⟨ha.dif, hJ.dif.sublist (hF.map nm), fun x hx y hy e => ?_⟩
    obtain ⟨p, hp, rfl⟩ := List.mem_map.1 hx
    obtain ⟨q, hq, rfl⟩ := List.mem_map.1 hy
    obtain ⟨h1, h2⟩ := (snc_mem ha hJ).1 hq
    have h3 := fnd_self hJ.dif h1
    rw [← e, fnd_self hJ.dif ((hm p).2 (.inl hp))] at h3
    cases h3
    exact h2 hp
  have hperm : (a ++ snc a (jn a b)).Perm (jn a b) :=
    (List.perm_ext_iff_of_nodup (nd_of hdis) (nd_of hJ.dif)).2 fun e => by
      rw [List.mem_append, snc_mem ha hJ, hm]
      constructor
      · rintro (h | h)
        · exact .inl h
        · exact h.1
      · intro h
        by_cases h2 : e ∈ a
        · exact .inl h2
        · exact .inr ⟨h, h2⟩
  have hlen : a.length + (snc a (jn a b)).length ≤ 200 := by
    have := hperm.length_eq
    rw [List.length_append] at this
    omega
  have hp2 := (tov_perm a (snc a (jn a b))).trans hperm
  refine ⟨hJ, fun k hk => tov_ok hJ hF ha hdis hlen hk, hJ.perm hp2.symm, ?_⟩
  rw [srt_of_perm hJ.dif hp2, asc_srt (jn_asc a b)]
end Go.Proofs.Ytalfffkcmddakaa.Pl
