/- Plain: the days on which something changes, what changes on them, the balance behind each. -/
import Derived.Test.YtalfffkcmddakaaP7
namespace Go.Proofs.Ytalfffkcmddakaa.Pl

/-- what a day changes -/
def ch (x : Int) (l : List En) : Int := l.foldl (fun s e => if e.k ≠ 4 ∧ e.d = x then s + ef e else s) 0
theorem ch_nil (x : Int) : ch x [] = 0 := rfl
theorem ch_snoc (x : Int) (l : List En) (e : En) : ch x (l ++ [e]) = if e.k ≠ 4 ∧ e.d = x then ch x l + ef e else ch x l := by unfold ch; rw [List.foldl_append]; rfl
/-- the days, as they come first -/
def dys (l : List En) : List Int := l.foldl (fun K e => if e.k ≠ 4 then (if e.d ∈ K then K else K ++ [e.d]) else K) []
theorem dys_snoc (l : List En) (e : En) : dys (l ++ [e]) = if e.k ≠ 4 then (if e.d ∈ dys l then dys l else dys l ++ [e.d]) else dys l := by unfold dys; rw [List.foldl_append]; rfl
theorem snoc_ind {α : Type} {P : List α → Prop} (h0 : P []) (h1 : ∀ l x, P l → P (l ++ [x])) (l : List α) : P l := by
  suffices h : ∀ r : List α, P r.reverse by simpa using h l.reverse
  intro r
  induction r with
  | nil => exact h0
  | cons x r ih => rw [List.reverse_cons]; exact h1 _ _ ih
theorem dys_spec (l : List En) : (dys l).Nodup ∧ (dys l).length ≤ l.length ∧ ∀ x, x ∈ dys l ↔ ∃ e, e ∈ l ∧ e.k ≠ 4 ∧ e.d = x := by
  refine snoc_ind (P := fun l => (dys l).Nodup ∧ (dys l).length ≤ l.length ∧ ∀ x, x ∈ dys l ↔ ∃ e, e ∈ l ∧ e.k ≠ 4 ∧ e.d = x) ⟨List.nodup_nil, Nat.le_refl _, by simp [dys]⟩ ?_ l
  intro l e ⟨h1, h2, h3⟩
  rw [dys_snoc, List.length_append, List.length_singleton]
  have hm : ∀ x, (∃ y, y ∈ l ++ [e] ∧ y.k ≠ 4 ∧ y.d = x) ↔ (∃ y, y ∈ l ∧ y.k ≠ 4 ∧ y.d = x) ∨ (e.k ≠ 4 ∧ e.d = x) := fun x => by
    constructor
    · rintro ⟨y, hy, h⟩
      rcases List.mem_append.1 hy with hy | hy
      · exact .inl ⟨y, hy, h⟩
      · simp at hy; subst hy; exact .inr h
    · rintro (⟨y, hy, h⟩ | h)
      · exact ⟨y, List.mem_append_left _ hy, h⟩
      · exact ⟨e, by simp, h⟩
  by_cases hk : e.k ≠ 4
  · rw [if_pos hk]
    by_cases hd : e.d ∈ dys l
    · rw [if_pos hd]
      refine ⟨h1, by omega, fun x => ?_⟩
      rw [hm, ← h3]
      exact ⟨.inl, fun h => h.elim id (fun h => h.2 ▸ hd)⟩
    · rw [if_neg hd]
      refine ⟨List.nodup_append.2 ⟨h1, by simp, fun a ha b hb => by simp at hb; subst hb; exact fun e => hd (e ▸ ha)⟩, by simp; omega, fun x => ?_⟩
      rw [hm, ← h3, List.mem_append, List.mem_singleton]
      exact ⟨fun h => h.imp id (fun h => ⟨hk, h.symm⟩), fun h => h.imp id (fun h => h.2.symm)⟩
  · rw [if_neg hk]
    refine ⟨h1, by omega, fun x => ?_⟩
    rw [hm, ← h3]
    exact ⟨.inl, fun h => h.elim id (fun h => absurd h.1 hk)⟩
theorem dys_take {l : List En} {k : Nat} (hk : k < l.length) : dys (l.take (k + 1)) = if l[k].k ≠ 4 then (if l[k].d ∈ dys (l.take k) then dys (l.take k) else dys (l.take k) ++ [l[k].d]) else dys (l.take k) := by
  rw [List.take_succ_eq_append_getElem hk, dys_snoc]
theorem ch_take {x : Int} {l : List En} {k : Nat} (hk : k < l.length) : ch x (l.take (k + 1)) = if l[k].k ≠ 4 ∧ l[k].d = x then ch x (l.take k) + ef l[k] else ch x (l.take k) := by
  rw [List.take_succ_eq_append_getElem hk, ch_snoc]
theorem ch_bound (x : Int) {l : List En} (h : ∀ e, e ∈ l → vE e = true) : ∀ k, k ≤ l.length → -(k * 1000000000) ≤ ch x (l.take k) ∧ ch x (l.take k) ≤ k * 1000000000
  | 0, _ => by rw [List.take_zero, ch_nil]; omega
  | k + 1, hk => by
    have ih := ch_bound x h k (by omega)
    have hc := ef_bound (h _ (List.getElem_mem (show k < l.length by omega)))
    rw [ch_take (show k < l.length by omega)]
    split <;> omega
theorem ch_out {x : Int} (l : List En) : x ∉ dys l → ch x l = 0 := by
  refine snoc_ind (P := fun l => x ∉ dys l → ch x l = 0) (fun _ => rfl) ?_ l
  intro l e ih h
  rw [ch_snoc]
  rw [dys_snoc] at h
  by_cases hk : e.k ≠ 4
  · rw [if_pos hk] at h
    by_cases hd : e.d ∈ dys l
    · rw [if_pos hd] at h
      rw [if_neg (fun h' : e.k ≠ 4 ∧ e.d = x => h (h'.2 ▸ hd)), ih h]
    · rw [if_neg hd] at h
      rw [if_neg (fun h' : e.k ≠ 4 ∧ e.d = x => h (by rw [← h'.2]; simp)), ih (fun h' => h (List.mem_append_left _ h'))]
  · rw [if_neg hk] at h
    rw [if_neg (fun h' : e.k ≠ 4 ∧ e.d = x => hk h'.1), ih h]
/-- a sum over days -/
def sm (l : List En) (K : List Int) : Int := K.foldl (fun s x => s + ch x l) 0
theorem sm_snoc (l : List En) (K : List Int) (x : Int) : sm l (K ++ [x]) = sm l K + ch x l := by unfold sm; rw [List.foldl_append]; rfl
theorem sm_nil (l : List En) : sm l [] = 0 := rfl
theorem sm_empty (K : List Int) : sm [] K = 0 := by
  refine snoc_ind (P := fun K => sm [] K = 0) rfl (fun K x h => by rw [sm_snoc, h]; rfl) K
theorem sm_one (l : List En) (e : En) (K : List Int) : K.Nodup → sm (l ++ [e]) K = sm l K + if e.k ≠ 4 ∧ e.d ∈ K then ef e else 0 := by
  refine snoc_ind (P := fun K => K.Nodup → sm (l ++ [e]) K = sm l K + if e.k ≠ 4 ∧ e.d ∈ K then ef e else 0) (fun _ => by simp [sm_nil]) ?_ K
  intro K x ih hn
  have hn' := List.nodup_append.1 hn
  have hx : x ∉ K := fun h => hn'.2.2 x h x (by simp) rfl
  rw [sm_snoc, sm_snoc, ih hn'.1, ch_snoc]
  by_cases hk : e.k = 4
  · simp [hk]
  · by_cases hd : e.d = x
    · subst hd; simp [hk, hx]; omega
    · by_cases hm : e.d ∈ K <;> simp [hk, hd, hm] <;> omega
theorem ef_ret {e : En} (h : ¬ e.k ≠ 4) : ef e = 0 := by
  have h : e.k = 4 := by omega
  unfold ef; rw [h]; rfl
/-- the sum over the days up to a day is the balance -/
theorem sm_bal (d : Int) (K : List Int) (hn : K.Nodup) (hle : ∀ x, x ∈ K → x ≤ d) (l : List En) : (∀ e, e ∈ l → e.k ≠ 4 → e.d ≤ d → e.d ∈ K) → sm l K = bal d l := by
  refine snoc_ind (P := fun l => (∀ e, e ∈ l → e.k ≠ 4 → e.d ≤ d → e.d ∈ K) → sm l K = bal d l) (fun _ => by rw [sm_empty, bal_nil]) ?_ l
  intro l e ih h
  rw [sm_one l e K hn, bal_snoc, ih (fun y hy => h y (List.mem_append_left _ hy))]
  by_cases hk : e.k ≠ 4
  · by_cases hd : e.d ≤ d
    · rw [if_pos hd, if_pos ⟨hk, h e (by simp) hk hd⟩]
    · rw [if_neg hd, if_neg (fun h' => hd (hle _ h'.2))]; omega
  · rw [if_neg (fun h => hk h.1), ef_ret hk]
    split <;> omega
abbrev Up (D : List Int) : Prop := D.Pairwise fun x y => x < y
/-- all days, ascending -/
structure IsDs (l : List En) (D : List Int) : Prop where
  up : Up D
  mem : ∀ x, x ∈ D ↔ ∃ e, e ∈ l ∧ e.k ≠ 4 ∧ e.d = x
theorem up_nodup {D : List Int} (h : Up D) : D.Nodup := h.imp fun {a b} hab e => by omega
theorem IsDs.uniq {l : List En} {D E : List Int} (h : IsDs l D) (k : IsDs l E) : D = E := by
  have hp : D.Perm E := (List.perm_ext_iff_of_nodup (up_nodup h.up) (up_nodup k.up)).2 fun x => by rw [h.mem, k.mem]
  exact hp.eq_of_pairwise (le := fun a b => a < b) (fun a b _ _ h1 h2 => by omega) h.up k.up
theorem IsDs.len {l : List En} {D : List Int} (h : IsDs l D) : D.length ≤ l.length := by
  obtain ⟨h1, h2, h3⟩ := dys_spec l
  exact Nat.le_trans (List.Nodup.length_le_of_subset (up_nodup h.up) fun x hx => (h3 x).2 ((h.mem x).1 hx)) h2
theorem ds_sort (l : List En) {ss : List Int} (hp : ss.Perm (dys l)) : IsDs l (ss.mergeSort fun x y => decide (x ≤ y)) := by
  obtain ⟨h1, h2, h3⟩ := dys_spec l
  refine ⟨?_, fun x => ?_⟩
  · have h4 := List.pairwise_mergeSort (le := fun x y : Int => decide (x ≤ y)) (fun a b c h1 h2 => by simp at *; omega) (fun a b => by simp; omega) ss
    have h5 : (ss.mergeSort fun x y => decide (x ≤ y)).Nodup := ((List.mergeSort_perm _ _).nodup_iff).2 (hp.nodup_iff.2 h1)
    refine (h4.and h5).imp fun {a b} ⟨h6, h7⟩ => ?_
    have := of_decide_eq_true h6
    omega
  · rw [(List.mergeSort_perm _ _).mem_iff, hp.mem_iff, h3]
/-- the sum over the first days -/
theorem IsDs.sum {l : List En} {D : List Int} (h : IsDs l D) {k : Nat} (hk : k < D.length) : sm l (D.take (k + 1)) = bal D[k] l := by
  have hup := h.up
  have hs : (D.take (k + 1)).Sublist D := List.take_sublist _ _
  refine sm_bal _ _ (up_nodup (hup.sublist hs)) (fun x hx => ?_) l (fun e he hk4 hd => ?_)
  · obtain ⟨i, hi, rfl⟩ := List.getElem_of_mem hx
    rw [List.length_take] at hi
    rw [List.getElem_take]
    rcases Nat.lt_or_ge i k with h' | h'
    · have := List.pairwise_iff_getElem.1 hup i k (by omega) hk h'; omega
    · have : i = k := by omega
      subst this; omega
  · obtain ⟨i, hi, e1⟩ := List.getElem_of_mem ((h.mem e.d).2 ⟨e, he, hk4, rfl⟩)
    have hik : i ≤ k := by
      rcases Nat.lt_or_ge k i with h' | h'
      · have := List.pairwise_iff_getElem.1 hup k i hk hi h'; omega
      · exact h'
    rw [← e1]
    refine List.mem_iff_getElem.2 ⟨i, by rw [List.length_take]; omega, ?_⟩
    rw [List.getElem_take]
theorem sm_bound {l : List En} (hv : ∀ e, e ∈ l → vE e = true) (hl : l.length ≤ 200) {D : List Int} (h : IsDs l D) {k : Nat} (hk : k ≤ D.length) : -200000000000 ≤ sm l (D.take k) ∧ sm l (D.take k) ≤ 200000000000 := by
  cases k with
  | zero => rw [List.take_zero, sm_nil]; omega
  | succ k =>
    rw [h.sum (by omega)]
    have := bal_bound (D[k]'(by omega)) hv l.length (Nat.le_refl _)
    rw [List.take_length] at this
    omega
theorem sm_take {l : List En} {D : List Int} {k : Nat} (hk : k < D.length) : sm l (D.take (k + 1)) = sm l (D.take k) + ch D[k] l := by rw [List.take_succ_eq_append_getElem hk, sm_snoc]
/-- what Running answers -/
def run (l : List En) (D : List Int) : List (Int × Int) := D.map fun x => (x, bal x l)
theorem run_take {l : List En} {D : List Int} {k : Nat} (hk : k < D.length) : run l (D.take (k + 1)) = run l (D.take k) ++ [(D[k], bal D[k] l)] := by
  unfold run; rw [List.take_succ_eq_append_getElem hk, List.map_append]; rfl
theorem run_snoc (l : List En) (D : List Int) (x : Int) : run l (D ++ [x]) = run l D ++ [(x, bal x l)] := by unfold run; rw [List.map_append]; rfl
theorem run_len (l : List En) (D : List Int) : (run l D).length = D.length := List.length_map ..
/-- the next day -/
def mnx (last : Int) (l : List En) : Int := l.foldl (fun s e => if e.k ≠ 4 ∧ last < e.d then (if e.d < s then e.d else s) else s) 100001
theorem mnx_nil (last : Int) : mnx last [] = 100001 := rfl
theorem mnx_snoc (last : Int) (l : List En) (e : En) : mnx last (l ++ [e]) = if e.k ≠ 4 ∧ last < e.d then (if e.d < mnx last l then e.d else mnx last l) else mnx last l := by unfold mnx; rw [List.foldl_append]; rfl
theorem mnx_take {last : Int} {l : List En} {k : Nat} (hk : k < l.length) : mnx last (l.take (k + 1)) = if l[k].k ≠ 4 ∧ last < l[k].d then (if l[k].d < mnx last (l.take k) then l[k].d else mnx last (l.take k)) else mnx last (l.take k) := by
  rw [List.take_succ_eq_append_getElem hk, mnx_snoc]
theorem mnx_spec (last : Int) (l : List En) : mnx last l ≤ 100001 ∧ (∀ e, e ∈ l → e.k ≠ 4 → last < e.d → mnx last l ≤ e.d) ∧ (mnx last l = 100001 ∨ ∃ e, e ∈ l ∧ e.k ≠ 4 ∧ last < e.d ∧ e.d = mnx last l) := by
  refine snoc_ind (P := fun l => mnx last l ≤ 100001 ∧ (∀ e, e ∈ l → e.k ≠ 4 → last < e.d → mnx last l ≤ e.d) ∧ (mnx last l = 100001 ∨ ∃ e, e ∈ l ∧ e.k ≠ 4 ∧ last < e.d ∧ e.d = mnx last l)) ⟨by rw [mnx_nil]; omega, by simp, .inl rfl⟩ ?_ l
  intro l e ⟨h1, h2, h3⟩
  rw [mnx_snoc]
  by_cases hc : e.k ≠ 4 ∧ last < e.d
  · rw [if_pos hc]
    by_cases hl : e.d < mnx last l
    · rw [if_pos hl]
      refine ⟨by omega, fun y hy hk hd => ?_, .inr ⟨e, by simp, hc.1, hc.2, rfl⟩⟩
      rcases List.mem_append.1 hy with hy | hy
      · have := h2 y hy hk hd; omega
      · simp at hy; subst hy; omega
    · rw [if_neg hl]
      refine ⟨h1, fun y hy hk hd => ?_, h3.imp id fun ⟨y, hy, h⟩ => ⟨y, List.mem_append_left _ hy, h⟩⟩
      rcases List.mem_append.1 hy with hy | hy
      · exact h2 y hy hk hd
      · simp at hy; subst hy; omega
  · rw [if_neg hc]
    refine ⟨h1, fun y hy hk hd => ?_, h3.imp id fun ⟨y, hy, h⟩ => ⟨y, List.mem_append_left _ hy, h⟩⟩
    rcases List.mem_append.1 hy with hy | hy
    · exact h2 y hy hk hd
    · simp at hy; subst hy; exact absurd ⟨hk, hd⟩ hc
/-- the days up to a day -/
structure Upto (l : List En) (last : Int) (D : List Int) : Prop where
  up : Up D
  mem : ∀ x, x ∈ D ↔ (∃ e, e ∈ l ∧ e.k ≠ 4 ∧ e.d = x) ∧ x ≤ last
theorem Upto.start {l : List En} (h : ∀ e, e ∈ l → vE e = true) : Upto l (-1) [] where
  up := List.Pairwise.nil
  mem x := by
    constructor
    · intro h; cases h
    · rintro ⟨⟨e, he, _, rfl⟩, h2⟩
      have := (ve_iff.1 (h e he)).d0
      omega
theorem Upto.len {l : List En} {last : Int} {D : List Int} (h : Upto l last D) : D.length ≤ l.length := by
  obtain ⟨h1, h2, h3⟩ := dys_spec l
  exact Nat.le_trans (List.Nodup.length_le_of_subset (up_nodup h.up) fun x hx => (h3 x).2 ((h.mem x).1 hx).1) h2
theorem Upto.next {l : List En} {last : Int} {D : List Int} (h : Upto l last D) (hm : mnx last l ≤ 100000) : Upto l (mnx last l) (D ++ [mnx last l]) ∧ last < mnx last l := by
  obtain ⟨h1, h2, h3⟩ := mnx_spec last l
  obtain ⟨e, he, hk, hd, hx⟩ := h3.resolve_left (by omega)
  refine ⟨⟨?_, fun x => ?_⟩, by omega⟩
  · refine List.pairwise_append.2 ⟨h.up, by simp, fun a ha b hb => ?_⟩
    simp at hb; subst hb
    have := ((h.mem a).1 ha).2
    omega
  · rw [List.mem_append, List.mem_singleton, h.mem]
    constructor
    · rintro (⟨h4, h5⟩ | rfl)
      · exact ⟨h4, by omega⟩
      · exact ⟨⟨e, he, hk, hx⟩, by omega⟩
    · rintro ⟨⟨y, hy, hyk, rfl⟩, h5⟩
      by_cases h6 : y.d ≤ last
      · exact .inl ⟨⟨y, hy, hyk, rfl⟩, h6⟩
      · have := h2 y hy hyk (by omega)
        exact .inr (by omega)
theorem Upto.done {l : List En} (hv : ∀ e, e ∈ l → vE e = true) {last : Int} {D : List Int} (h : Upto l last D) (hm : ¬ mnx last l ≤ 100000) : IsDs l D := by
  obtain ⟨h1, h2, h3⟩ := mnx_spec last l
  refine ⟨h.up, fun x => ?_⟩
  rw [h.mem]
  refine ⟨fun h => h.1, fun ⟨e, he, hk, hd⟩ => ⟨⟨e, he, hk, hd⟩, ?_⟩⟩
  rcases Int.lt_or_le last x with h4 | h4
  · have h5 := h2 e he hk (by omega)
    have := (ve_iff.1 (hv e he)).d1
    omega
  · exact h4
/-- what Running answers: its error -/
def ruE (l : List En) : Int := if !vB l then 90 else 0
end Go.Proofs.Ytalfffkcmddakaa.Pl
