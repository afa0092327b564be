/- Plain: what one more entry does to balances and to what is settled; the last day. -/
import Derived.Test.YtalfffkcmddakaaP9
namespace Go.Proofs.Ytalfffkcmddakaa.Pl

theorem bal_perm {a b : List En} (h : a.Perm b) (d : Int) : bal d a = bal d b := by
  unfold bal
  refine h.foldl_eq' (fun x _ y _ z => ?_) 0
  by_cases h1 : x.d ≤ d <;> by_cases h2 : y.d ≤ d <;> simp [h1, h2] <;> omega
theorem pd_perm {a b : List En} (h : a.Perm b) (r d : Int) : pd r d a = pd r d b := by
  unfold pd
  refine h.foldl_eq' (fun x _ y _ z => ?_) 0
  cases h1 : isp r d x <;> cases h2 : isp r d y <;> simp <;> omega
theorem pd_mono (r : Int) {d d' : Int} (hd : d ≤ d') {l : List En} (h : ∀ e, e ∈ l → vE e = true) : pd r d l ≤ pd r d' l := by
  suffices key : ∀ l : List En, (∀ e, e ∈ l → vE e = true) → pd r d l ≤ pd r d' l from key l h
  intro l
  refine snoc_ind (P := fun l => (∀ e, e ∈ l → vE e = true) → pd r d l ≤ pd r d' l) (fun _ => by rw [pd_nil, pd_nil]; omega) ?_ l
  intro l e ih h
  have ih := ih fun y hy => h y (List.mem_append_left _ hy)
  have hc := ve_c (h e (by simp))
  rw [pd_snoc, pd_snoc]
  by_cases h1 : isp r d e = true
  · have h2 : isp r d' e = true := by
      unfold isp at h1 ⊢
      simp only [Bool.and_eq_true, decide_eq_true_iff] at h1 ⊢
      exact ⟨h1.1, by omega, h1.2.2⟩
    rw [if_pos h1, if_pos h2]; omega
  · rw [if_neg h1]
    split <;> omega
/-- one more entry -/
theorem more {b : List En} {x : En} (h : adE b x = 0) : adV b x = srt (b ++ [x]) ∧ Vb (srt (b ++ [x])) ∧ Vb b ∧ vE x = true := by
  obtain ⟨h1, h2, _, _⟩ := ad_ok.1 h
  exact ⟨by unfold adV; rw [if_pos h], (ad_vb h).srt, vb_iff.1 h1, h2⟩
theorem more_bal {b : List En} {x : En} (d : Int) : bal d (srt (b ++ [x])) = bal d b + if x.d ≤ d then ef x else 0 := by
  rw [bal_perm (srt_perm _), bal_snoc]
  split <;> omega
theorem more_stl {b : List En} {x : En} (h : adE b x = 0) {r d : Int} (h1 : stE b r d = 0) (h2 : stV b r d = true) :
    stE (srt (b ++ [x])) r d = 0 ∧ stV (srt (b ++ [x])) r d = true ∧ stE (srt (b ++ [x])) r 100000 = 0 := by
  obtain ⟨_, hc, hb, hx⟩ := more h
  have hv := hc
  have e1 : vB b = true := vb_iff.2 hb
  have e2 : vB (srt (b ++ [x])) = true := vb_iff.2 hc
  unfold stE at h1
  rw [e1] at h1
  have e3 : inB 0 d 100000 = true := by
    cases e : inB 0 d 100000
    · rw [e] at h1; simp at h1
    · rfl
  rw [e3] at h1
  have e4 : (fnd b (1, r)).isSome = true := by
    cases e : (fnd b (1, r)).isSome
    · rw [e] at h1; simp at h1
    · rfl
  obtain ⟨v, hv⟩ := Option.isSome_iff_exists.1 e4
  have e5 : fnd (srt (b ++ [x])) (1, r) = some v := by
    rw [fnd_perm hc.dif (srt_perm _), fnd_append, hv]; rfl
  have hd := inB_true.1 e3
  have h0 : stE b r d = 0 := by unfold stE; rw [e1, e3, hv]; rfl
  have k1 : stE (srt (b ++ [x])) r d = 0 := by unfold stE; rw [e2, e3, e5]; rfl
  have k2 : stE (srt (b ++ [x])) r 100000 = 0 := by unfold stE; rw [e2, e5]; rfl
  unfold stV at h2
  rw [if_pos h0, hv] at h2
  unfold stl at h2
  have h2 := of_decide_eq_true h2
  have hc2 := ve_c hx
  refine ⟨k1, ?_, k2⟩
  unfold stV
  rw [if_pos k1, e5]
  unfold stl
  refine decide_eq_true ?_
  show v.c ≤ _
  rw [show ((some v).getD z0) = v from rfl] at *
  rw [pd_perm (srt_perm _), pd_snoc]
  split <;> omega
theorem later {l : List En} (h : Vb l) {r d : Int} (h1 : stE l r d = 0) (h2 : stV l r d = true) : stV l r 100000 = true := by
  have e2 : vB l = true := vb_iff.2 h
  unfold stE at h1
  rw [e2] at h1
  have e3 : inB 0 d 100000 = true := by
    cases e : inB 0 d 100000
    · rw [e] at h1; simp at h1
    · rfl
  rw [e3] at h1
  have e4 : (fnd l (1, r)).isSome = true := by
    cases e : (fnd l (1, r)).isSome
    · rw [e] at h1; simp at h1
    · rfl
  have hd := inB_true.1 e3
  have h0 : stE l r d = 0 := by unfold stE; rw [e2, e3, e4]; rfl
  have k2 : stE l r 100000 = 0 := by unfold stE; rw [e2, e4]; rfl
  unfold stV at h2 ⊢
  rw [if_pos h0] at h2
  rw [if_pos k2]
  unfold stl at h2 ⊢
  have h2 := of_decide_eq_true h2
  have := pd_mono ((fnd l (1, r)).getD z0).r hd.2 h.each
  exact decide_eq_true (by omega)
/-- the balance at the greatest day is that behind the last day -/
theorem last_bal {l : List En} (h : Vb l) {D : List Int} (hD : IsDs l D) : sm l D = bal 100000 l :=
  sm_bal 100000 D (up_nodup hD.up) (fun x hx => by
    obtain ⟨e, he, _, rfl⟩ := (hD.mem x).1 hx
    exact (ve_iff.1 (h.each e he)).d1) l (fun e he hk _ => (hD.mem e.d).2 ⟨e, he, hk, rfl⟩)
theorem end_nil {l : List En} (h : Vb l) (hD : IsDs l []) : bal 100000 l = 0 := by rw [← last_bal h hD, sm_nil]
theorem end_last {l : List En} (h : Vb l) {D : List Int} (hD : IsDs l D) {k : Nat} (hk : D.length = k + 1) : bal (D[k]'(by omega)) l = bal 100000 l := by
  rw [← last_bal h hD, ← hD.sum (by omega), List.take_of_length_le (by omega)]
end Go.Proofs.Ytalfffkcmddakaa.Pl
