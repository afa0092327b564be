/- Plain: lines merged, as the walk needs it; the invoice of the merged form. -/
import Derived.Test.YtdihnbjmeppbcaaDoorP12
namespace Go.Proofs.YtdihnbjmeppbcaaDoor.Pl

/-- the place of the first line of the same thing -/
def fi (acc : List Ln) (x : Ln) : Option Nat := acc.findIdx? (sk x)
theorem fi_none {acc : List Ln} {x : Ln} (h : fi acc x = none) : acc.any (sk x) = false := by
  unfold fi at h
  rw [List.findIdx?_eq_none_iff] at h
  rw [List.any_eq_false]
  intro y hy
  rw [h y hy]
  decide
theorem fi_some {acc : List Ln} {x : Ln} {p : Nat} (h : fi acc x = some p) : ∃ hp : p < acc.length, sk x acc[p] = true := by
  unfold fi at h
  rw [List.findIdx?_eq_some_iff_getElem] at h
  exact ⟨h.1, h.2.1⟩
theorem put_new {acc : List Ln} {x : Ln} (h : fi acc x = none) : put acc x = acc ++ [x] := by
  unfold put
  rw [if_neg (by rw [fi_none h]; decide)]
/-- x's pieces at place p -/
def more (acc : List Ln) (p : Nat) (x : Ln) : Ln := ⟨(acc.getD p default).md, (acc.getD p default).col, (acc.getD p default).siz, (acc.getD p default).cnt + x.cnt⟩
theorem put_old {acc : List Ln} {x : Ln} {p : Nat} (hu : Un acc) (h : fi acc x = some p) : put acc x = acc.set p (more acc p x) := by
  obtain ⟨hp, hs⟩ := fi_some h
  unfold put
  rw [if_pos (List.any_eq_true.2 ⟨_, List.getElem_mem hp, hs⟩)]
  refine List.ext_getElem (by simp) (fun i h1 h2 => ?_)
  have hi : i < acc.length := by simpa using h1
  rw [List.getElem_map, List.getElem_set]
  have e : acc.getD p default = acc[p] := by rw [List.getD_eq_getElem?_getD, List.getElem?_eq_getElem hp]; rfl
  by_cases hpi : p = i
  · subst hpi
    rw [if_pos rfl]
    unfold bump more
    rw [if_pos hs, e]
  · rw [if_neg hpi]
    unfold bump
    rw [if_neg]
    intro hx
    unfold Un at hu
    rw [List.pairwise_iff_getElem] at hu
    rcases Nat.lt_or_gt_of_ne hpi with hlt | hgt
    · have := hu p i hp hi hlt
      rw [sk_trans hs hx] at this
      cases this
    · have := hu i p hi hp hgt
      rw [sk_trans hx hs] at this
      cases this
theorem fi_old {acc : List Ln} {x : Ln} {p : Nat} (h : fi acc x = some p) (y : Ln) : fi (put acc x) y = fi acc y := by
  obtain ⟨hp, hs⟩ := fi_some h
  unfold put
  rw [if_pos (List.any_eq_true.2 ⟨_, List.getElem_mem hp, hs⟩)]
  unfold fi
  rw [List.findIdx?_map]
  congr 1
  funext z
  exact bump_sk x z y
theorem fi_new {acc : List Ln} {x : Ln} (h : fi acc x = none) (y : Ln) : fi (put acc x) y = if sk y x = true then some acc.length else fi acc y := by
  rw [put_new h]
  unfold fi at h ⊢
  rw [List.findIdx?_append]
  by_cases hy : sk y x = true
  · rw [if_pos hy]
    have : acc.findIdx? (sk y) = none := by
      rw [List.findIdx?_eq_none_iff] at h ⊢
      intro z hz
      have := h z hz
      rw [← Bool.not_eq_true] at this ⊢
      exact fun hyz => this (sk_trans hy hyz)
    rw [this]
    simp [List.findIdx?_cons, hy]
  · rw [if_neg hy]
    simp [List.findIdx?_cons, hy]
/-- the thing of a line -/
def th (x : Ln) : Ln := ⟨x.md, x.col, x.siz, 0⟩
theorem fi_th (acc : List Ln) (x : Ln) : fi acc (th x) = fi acc x := rfl
theorem sk_th {m : ByteArray} {c s : Int} {x : Ln} : sk ⟨m, c, s, 0⟩ x = true ↔ m = x.md ∧ c = x.col ∧ s = x.siz := sk_true
theorem mg_len (ls : List Ln) : ∀ k, (mg ls k).length ≤ k
  | 0 => Nat.le_refl _
  | k + 1 => by
    have := mg_len ls k
    rw [mg]
    unfold put
    split
    · rw [List.length_map]; omega
    · rw [List.length_append]; simp; omega
theorem mg_pos (ls : List Ln) : ∀ k, 0 < k → 0 < (mg ls k).length
  | k + 1, _ => by
    rw [mg]
    unfold put
    split
    · rename_i h
      rw [List.length_map]
      obtain ⟨z, hz, _⟩ := List.any_eq_true.1 h
      exact List.length_pos_of_mem hz
    · rw [List.length_append]; simp
/-- what lines in the merged list look like -/
theorem mg_from {ls : List Ln} (h : ∀ x, x ∈ ls → 1 ≤ x.cnt ∧ x.cnt ≤ 1000) : ∀ {k : Nat}, k ≤ ls.length → ∀ y, y ∈ mg ls k → (∃ x, x ∈ ls ∧ y.md = x.md ∧ y.col = x.col ∧ y.siz = x.siz) ∧ 1 ≤ y.cnt ∧ y.cnt ≤ 1000 * (k : Int)
  | 0, _, y, hy => by cases hy
  | k + 1, hk, y, hy => by
    have ih := mg_from h (k := k) (by omega)
    have ex : ls.getD k default = ls[k] := by rw [List.getD_eq_getElem?_getD, List.getElem?_eq_getElem (show k < ls.length by omega)]; rfl
    have hx : ls[k] ∈ ls := List.getElem_mem (by omega)
    have h1 := h _ hx
    rw [mg, ex] at hy
    unfold put at hy
    split at hy
    · obtain ⟨z, hz, rfl⟩ := List.mem_map.1 hy
      obtain ⟨h2, h3, h4⟩ := ih z hz
      unfold bump
      split
      · exact ⟨h2, by show 1 ≤ z.cnt + ls[k].cnt; omega, by show z.cnt + ls[k].cnt ≤ _; omega⟩
      · exact ⟨h2, h3, by omega⟩
    · rcases List.mem_append.1 hy with hy | hy
      · obtain ⟨h2, h3, h4⟩ := ih y hy
        exact ⟨h2, h3, by omega⟩
      · rw [List.mem_singleton.1 hy]
        exact ⟨⟨_, hx, rfl, rfl, rfl⟩, h1.1, by omega⟩
/-- all lines of a form merged -/
def mgd (f : Fm) : List Ln := mg f.ls f.ls.length
/-- what is wrong with merging -/
def mgE (f : Fm) : Int := if vf f = true then (if (mgd f).all vl = true then 0 else 4) else 3
/-- the merged form, wherever its lines lie; or none -/
def mgF (f : Fm) (A : Option Addr) (k : Nat) : Fm := if mgE f = 0 then ⟨f.cus, f.d, f.cur, mgd f, A, k⟩ else ⟨⟨#[]⟩, 0, ⟨#[]⟩, [], none, 0⟩
theorem mgE_yes {f : Fm} (h : mgE f = 0) : vf f = true ∧ (mgd f).all vl = true := by
  unfold mgE at h
  split at h
  · split at h
    · exact ⟨by assumption, by assumption⟩
    · cases h
  · cases h
theorem vf_mgd {f : Fm} (h : vf f = true) (A : Option Addr) (k : Nat) : vf ⟨f.cus, f.d, f.cur, mgd f, A, k⟩ = (mgd f).all vl := by
  have hf := vf_true.1 h
  have h1 := mg_len f.ls f.ls.length
  have h2 := mg_pos f.ls f.ls.length (by have := hf.n0; omega)
  rw [Bool.eq_iff_iff, vf_true, List.all_eq_true]
  constructor
  · intro g x hx
    exact vl_true.2 (g.ls x hx)
  · intro g
    exact ⟨hf.cus, hf.d0, hf.d1, hf.cur, by show 1 ≤ (mg f.ls f.ls.length).length; omega, by have := hf.n1; show (mg f.ls f.ls.length).length ≤ 40; omega, fun x hx => vl_true.1 (g x hx)⟩
theorem iv_mgd {l : List Pr} {r : List Rt} {f : Fm} (hi : ivE l r f = 0) (he : f.cur = eurB) (hm : mgE f = 0) (A : Option Addr) (k : Nat) :
    ivE l r (mgF f A k) = 0 ∧ ivS l r (mgF f A k) = ivS l r f := by
  obtain ⟨hv, ha⟩ := mgE_yes hm
  have hf := vf_true.1 hv
  have hg : mgF f A k = ⟨f.cus, f.d, f.cur, mgd f, A, k⟩ := if_pos hm
  have hc := hi
  rw [ivE_iff] at hc
  have ck := ck_ok hc.1
  have hck : ckE l r (mgF f A k) = 0 := (Ck.mk ck.p ck.r (by rw [hg, vf_mgd hv, ha])).e
  -- what a line costs hangs on its model and its count alone
  have hP : ∀ x, amP l (mgF f A k) x = amP l f x := fun x => by
    rw [hg]
    unfold amP
    have e : pcs (mgd f) x.md (mgd f).length = pcs f.ls x.md f.ls.length := pcs_mg f.ls x.md
    show cen (fnd l (amR l f x)).st (pcs (mgd f) x.md (mgd f).length) _ = _
    rw [e]
    rfl
  have hR : ∀ x, amR l (mgF f A k) x = amR l f x := fun x => by rw [hg]; rfl
  have hfrom := mg_from (cnts hf) (k := f.ls.length) (Nat.le_refl _)
  have hat : ∀ (ls : List Ln) i, i < ls.length → ls.getD i default ∈ ls := fun ls i hi => by
    rw [List.getD_eq_getElem?_getD, List.getElem?_eq_getElem hi]; exact List.getElem_mem hi
  have hsome : ∀ x, x ∈ f.ls → ∃ j, amR l f x = some j := fun x hx => by
    obtain ⟨i, hi2, rfl⟩ := List.getElem_of_mem hx
    have := hc.2 i hi2
    unfold lnE amE at this
    rw [List.getD_eq_getElem?_getD, List.getElem?_eq_getElem hi2] at this
    cases e : amR l f f.ls[i] with
    | some j => exact ⟨j, rfl⟩
    | none => simp only [Option.getD_some] at this; rw [e] at this; cases this
  have hsome2 : ∀ y, y ∈ mgd f → ∃ j, amR l f y = some j := fun y hy => by
    obtain ⟨⟨x, hx, e1, _⟩, _⟩ := hfrom y hy
    obtain ⟨j, hj⟩ := hsome x hx
    refine ⟨j, ?_⟩
    rw [← hj]
    unfold amR
    rw [e1]
  have hls : (mgF f A k).ls = mgd f := by rw [hg]
  have hcur : (mgF f A k).cur = eurB := by rw [hg]; exact he
  have hE : ivE l r (mgF f A k) = 0 := by
    rw [ivE_iff]
    refine ⟨hck, fun i hi2 => ?_⟩
    rw [hls] at hi2
    obtain ⟨j, hj⟩ := hsome2 _ (hat _ i hi2)
    unfold lnE amE
    rw [hls, hR, hj]
    show cE r (mgF f A k).cur _ _ = 0
    unfold cE
    rw [if_pos hcur]
  refine ⟨hE, ?_⟩
  have e1 : ivS l r (mgF f A k) = sm (lnV l r (mgF f A k)) (mgd f).length := by rw [← hls]; exact if_pos hE
  have e2 : ivS l r f = sm (lnV l r f) f.ls.length := if_pos hi
  have e3 : sm (lnV l r (mgF f A k)) (mgd f).length = sm (fun i => (fun m => amP l f ⟨m, 0, 0, 0⟩) ((mgd f).getD i default).md * ((mgd f).getD i default).cnt) (mgd f).length := sm_ext (fun i hi2 => by
    obtain ⟨j, hj⟩ := hsome2 _ (hat _ i hi2)
    unfold lnV amV
    rw [hls, hR, hj, hP]
    show cV r (mgF f A k).cur _ _ = _
    unfold cV
    rw [if_pos hcur]
    rfl)
  have e4 : sm (lnV l r f) f.ls.length = sm (fun i => (fun m => amP l f ⟨m, 0, 0, 0⟩) (f.ls.getD i default).md * (f.ls.getD i default).cnt) f.ls.length := sm_ext (fun i hi2 => by
    obtain ⟨j, hj⟩ := hsome _ (hat _ i hi2)
    unfold lnV amV
    rw [hj]
    show cV r f.cur _ _ = _
    unfold cV
    rw [if_pos he]
    rfl)
  rw [e1, e2, e3, e4, ← tot_sm (fun m => amP l f ⟨m, 0, 0, 0⟩), ← tot_mg (fun m => amP l f ⟨m, 0, 0, 0⟩)]
  rfl
end Go.Proofs.YtdihnbjmeppbcaaDoor.Pl
namespace Go.Proofs.YtdihnbjmeppbcaaDoor.Pl
/-- whether the first k lines have one of the same thing; the lines when k of them have been looked at -/
def tk (acc : List Ln) (x : Ln) (k : Nat) : Bool := match fi acc x with | none => false | some p => decide (p < k)
def Lk (acc : List Ln) (x : Ln) (k : Nat) : List Ln := if tk acc x k = true then put acc x else acc
theorem Lk_len (acc : List Ln) (x : Ln) (k : Nat) : (Lk acc x k).length = acc.length := by
  unfold Lk
  split
  · rename_i h
    unfold tk at h
    cases e : fi acc x with
    | none => rw [e] at h; cases h
    | some p =>
      obtain ⟨hp, hs⟩ := fi_some e
      unfold put
      rw [if_pos (List.any_eq_true.2 ⟨_, List.getElem_mem hp, hs⟩), List.length_map]
  · rfl
theorem same_iff {acc : List Ln} (hu : Un acc) {x : Ln} {k : Nat} (hk : k < acc.length) : (acc[k].md = x.md ∧ acc[k].col = x.col ∧ acc[k].siz = x.siz) ↔ fi acc x = some k := by
  constructor
  · rintro ⟨h1, h2, h3⟩
    have hs : sk x acc[k] = true := sk_true.2 ⟨h1.symm, h2.symm, h3.symm⟩
    cases e : fi acc x with
    | none =>
      have := fi_none e
      rw [List.any_eq_false] at this
      exact absurd hs (this _ (List.getElem_mem hk))
    | some p =>
      obtain ⟨hp, hsp⟩ := fi_some e
      unfold Un at hu
      rw [List.pairwise_iff_getElem] at hu
      rcases Nat.lt_trichotomy p k with h | h | h
      · have := hu p k hp hk h
        rw [sk_trans hsp hs] at this
        cases this
      · rw [h]
      · have := hu k p hk hp h
        rw [sk_trans hs hsp] at this
        cases this
  · intro h
    obtain ⟨_, hs⟩ := fi_some h
    obtain ⟨h1, h2, h3⟩ := sk_true.1 hs
    exact ⟨h1.symm, h2.symm, h3.symm⟩
theorem Lk_get {acc : List Ln} (hu : Un acc) {x : Ln} {k : Nat} (hk : k < acc.length) : (Lk acc x k)[k]'(by rw [Lk_len]; exact hk) = acc[k] := by
  have h : ∀ L, L = Lk acc x k → ∀ h, L[k]'h = acc[k] := by
    rintro L rfl h
    have e : Lk acc x k = Lk acc x k := rfl
    unfold Lk at h ⊢
    by_cases ht : tk acc x k = true
    · simp only [if_pos ht]
      unfold tk at ht
      cases e : fi acc x with
      | none => rw [e] at ht; cases ht
      | some p =>
        rw [e] at ht
        have hpk : p < k := of_decide_eq_true ht
        have e2 := put_old hu e
        simp only [e2]
        exact List.getElem_set_ne (by omega) _
    · simp only [if_neg ht]
  exact h _ rfl _
theorem tk_yes {acc : List Ln} (hu : Un acc) {x : Ln} {k : Nat} (h : fi acc x = some k) : tk acc x k = false ∧ tk acc x (k + 1) = true ∧ Lk acc x k = acc ∧ Lk acc x (k + 1) = acc.set k (more acc k x) := by
  have h1 : tk acc x k = false := by unfold tk; rw [h]; simp
  have h2 : tk acc x (k + 1) = true := by unfold tk; rw [h]; simp
  refine ⟨h1, h2, ?_, ?_⟩
  · unfold Lk; rw [h1]; rfl
  · unfold Lk; rw [h2, if_pos rfl]; exact put_old hu h
theorem tk_no {acc : List Ln} {x : Ln} {k : Nat} (h : fi acc x ≠ some k) : tk acc x (k + 1) = tk acc x k ∧ Lk acc x (k + 1) = Lk acc x k := by
  have h1 : tk acc x (k + 1) = tk acc x k := by
    unfold tk
    cases e : fi acc x with
    | none => rfl
    | some p =>
      have : p ≠ k := fun e2 => h (by rw [e, e2])
      simp only [decide_eq_decide]
      omega
  exact ⟨h1, by unfold Lk; rw [h1]⟩
theorem tk_zero (acc : List Ln) (x : Ln) : tk acc x 0 = false ∧ Lk acc x 0 = acc := by
  have h1 : tk acc x 0 = false := by unfold tk; cases fi acc x <;> simp
  exact ⟨h1, by unfold Lk; rw [h1]; rfl⟩
theorem tk_end {acc : List Ln} {x : Ln} : (tk acc x acc.length = true → Lk acc x acc.length = put acc x) ∧ (tk acc x acc.length = false → Lk acc x acc.length = acc ∧ put acc x = acc ++ [x]) := by
  constructor
  · intro h; unfold Lk; rw [h, if_pos rfl]
  · intro h
    refine ⟨by unfold Lk; rw [h]; rfl, ?_⟩
    unfold tk at h
    cases e : fi acc x with
    | none => exact put_new e
    | some p =>
      rw [e] at h
      obtain ⟨hp, _⟩ := fi_some e
      have := of_decide_eq_false h
      exact absurd hp this
end Go.Proofs.YtdihnbjmeppbcaaDoor.Pl
