/- Plain: the greedy choice on one measure, from both ends; how many sizes and values there are. It imports nothing of the program. -/
namespace Go.Proofs.YtghbipipehglfaaDoor.Pl

/-- how a greedy choice goes: which values are open behind the last choice, which value is better, what a choice adds -/
structure Way where
  opn : Option Int → Int → Bool
  bet : Int → Int → Prop
  f : Int → Int
  c1 : ∀ v, opn (some (f v)) v = false
  c2 : ∀ o v u, opn o v = true → opn o u = false → opn (some (f v)) u = false
  c3 : ∀ u v, bet u v → bet v u → u = v

/-- from st on the choice ends in fin -/
inductive Runs (A : Way) (vs : List Int) : List Int → List Int → Prop
  | done {st} : (∀ v, v ∈ vs → A.opn st.getLast? v = false) → Runs A vs st st
  | step {st v fin} : v ∈ vs → A.opn st.getLast? v = true → (∀ u, u ∈ vs → A.opn st.getLast? u = true → A.bet u v) → Runs A vs (st ++ [A.f v]) fin → Runs A vs st fin

theorem Runs.of_done {A : Way} {vs st fin : List Int} (h : Runs A vs st fin) (hd : ∀ v, v ∈ vs → A.opn st.getLast? v = false) : fin = st := by
  cases h with
  | done _ => rfl
  | step hm ho _ _ => rw [hd _ hm] at ho; cases ho
theorem Runs.of_step {A : Way} {vs st fin : List Int} {v : Int} (h : Runs A vs st fin) (hm : v ∈ vs) (ho : A.opn st.getLast? v = true) (hb : ∀ u, u ∈ vs → A.opn st.getLast? u = true → A.bet u v) :
    Runs A vs (st ++ [A.f v]) fin := by
  cases h with
  | done hd => rw [hd _ hm] at ho; cases ho
  | step hm' ho' hb' hr =>
    have e := A.c3 _ _ (hb _ hm' ho') (hb' _ hm ho)
    rw [← e]
    exact hr

def Way.one (A : Way) (st : List Int) (v : Int) : List Int := if A.opn st.getLast? v = true then st ++ [A.f v] else st
def Way.all (A : Way) (d : List Int) : List Int := d.foldl A.one []

theorem Way.all_snoc (A : Way) (d : List Int) (v : Int) : A.all (d ++ [v]) = A.one (A.all d) v := by
  unfold Way.all
  rw [List.foldl_append]
  rfl
theorem Way.fold_len (A : Way) (d : List Int) : ∀ st : List Int, (d.foldl A.one st).length ≤ st.length + d.length := by
  induction d with
  | nil => intro st; simp
  | cons v d ih =>
    intro st
    have h := ih (A.one st v)
    have h2 : (A.one st v).length ≤ st.length + 1 := by
      unfold Way.one
      split
      · simp
      · omega
    simp only [List.foldl_cons, List.length_cons]
    omega
theorem Way.all_len (A : Way) (d : List Int) : (A.all d).length ≤ d.length := by
  have := A.fold_len d []
  simpa [Way.all] using this

theorem Way.runs_aux (A : Way) (vs : List Int) (suf : List Int) : ∀ (pre st : List Int), (∀ v, v ∈ vs ↔ v ∈ pre ++ suf) → (∀ u, u ∈ pre → A.opn st.getLast? u = false) →
    suf.Pairwise (fun a b => A.bet b a) → (∀ a, A.bet a a) → Runs A vs st (suf.foldl A.one st) := by
  induction suf with
  | nil =>
    intro pre st hm hp _ _
    exact .done fun v hv => hp v (by simpa using (hm v).1 hv)
  | cons v suf ih =>
    intro pre st hm hp hs hr
    have hs' := List.pairwise_cons.1 hs
    show Runs A vs st (suf.foldl A.one (A.one st v))
    have hmm : ∀ x, x ∈ vs ↔ x ∈ (pre ++ [v]) ++ suf := fun x => by rw [hm x]; simp
    cases ho : A.opn st.getLast? v with
    | false =>
      have e : A.one st v = st := by unfold Way.one; rw [if_neg (by rw [ho]; simp)]
      rw [e]
      exact ih (pre ++ [v]) st hmm (fun u hu => by rcases List.mem_append.1 hu with h | h; exact hp u h; rw [List.mem_singleton.1 h]; exact ho) hs'.2 hr
    | true =>
      have e : A.one st v = st ++ [A.f v] := by unfold Way.one; rw [if_pos ho]
      rw [e]
      refine .step ((hm v).2 (by simp)) ho ?_ ?_
      · intro u hu hou
        rcases List.mem_append.1 ((hm u).1 hu) with h | h
        · rw [hp u h] at hou; cases hou
        · rcases List.mem_cons.1 h with h | h
          · rw [h]; exact hr v
          · exact hs'.1 u h
      · refine ih (pre ++ [v]) _ hmm ?_ hs'.2 hr
        intro u hu
        rw [List.getLast?_concat]
        rcases List.mem_append.1 hu with h | h
        · exact A.c2 _ v u ho (hp u h)
        · rw [List.mem_singleton.1 h]; exact A.c1 v

theorem Way.runs (A : Way) (vs d : List Int) (hm : ∀ v, v ∈ vs ↔ v ∈ d) (hd : d.Pairwise (fun a b => A.bet b a)) (hr : ∀ a, A.bet a a) : Runs A vs [] (A.all d) :=
  A.runs_aux vs d [] [] (by simpa using hm) (by simp) hd hr

/-- how many are open: each choice lowers it -/
def Way.left (A : Way) (vs st : List Int) : Nat := vs.countP fun v => A.opn st.getLast? v
theorem countP_lt {p q : Int → Bool} {l : List Int} (h : ∀ x, x ∈ l → q x = true → p x = true) {v : Int} (hv : v ∈ l) (h1 : p v = true) (h2 : q v = false) : l.countP q < l.countP p := by
  induction l with
  | nil => cases hv
  | cons a l ih =>
    have hle : l.countP q ≤ l.countP p := List.countP_mono_left fun x hx => h x (List.mem_cons_of_mem _ hx)
    rcases List.mem_cons.1 hv with e | e
    · subst e
      rw [List.countP_cons_of_neg (by rw [h2]; simp), List.countP_cons_of_pos h1]
      omega
    · have := ih (fun x hx => h x (List.mem_cons_of_mem _ hx)) e
      rw [List.countP_cons, List.countP_cons]
      have ha := h a (List.mem_cons_self ..)
      cases hq : q a with
      | false => simp; omega
      | true => rw [ha hq]; simp; omega
theorem Way.left_lt (A : Way) (vs st : List Int) {v : Int} (hm : v ∈ vs) (ho : A.opn st.getLast? v = true) : A.left vs (st ++ [A.f v]) < A.left vs st := by
  unfold Way.left
  refine countP_lt (v := v) ?_ hm ho ?_
  · intro x _ hx
    rw [List.getLast?_concat] at hx
    cases h : A.opn st.getLast? x with
    | true => rfl
    | false => rw [A.c2 _ v x ho h] at hx; cases hx
  · rw [List.getLast?_concat]; exact A.c1 v

/-- Stab: from the greatest value on -/
def stabW (w : Int) (hw : 0 ≤ w) : Way where
  opn o v := match o with | none => true | some a => decide (v < a)
  bet u v := u ≤ v
  f v := v - w
  c1 v := by simp; omega
  c2 o v u h1 h2 := by
    cases o with
    | none => simp at h2
    | some a => simp at h1 h2 ⊢; omega
  c3 u v h1 h2 := by omega
/-- Spread: from the least value on -/
def sprdW (w : Int) (hw : 0 ≤ w) : Way where
  opn o v := match o with | none => true | some a => decide (a + w < v)
  bet u v := v ≤ u
  f v := v
  c1 v := by simp; omega
  c2 o v u h1 h2 := by
    cases o with
    | none => simp at h2
    | some a => simp at h1 h2 ⊢; omega
  c3 u v h1 h2 := by omega

/-- sorted, from the least on -/
def srt (vs : List Int) : List Int := vs.mergeSort fun x y => decide (x ≤ y)
theorem srt_len (vs : List Int) : (srt vs).length = vs.length := List.length_mergeSort vs
theorem srt_mem (vs : List Int) (v : Int) : v ∈ srt vs ↔ v ∈ vs := (List.mergeSort_perm vs _).mem_iff
theorem srt_sorted (vs : List Int) : (srt vs).Pairwise (fun a b => a ≤ b) := by
  have := List.pairwise_mergeSort (le := fun x y : Int => decide (x ≤ y)) (fun a b c => by simp; omega) (fun a b => by simp; omega) vs
  exact this.imp (by simp)

/-- what Stab takes, in the order of taking; what Spread takes -/
def stabT (w : Int) (vs : List Int) : List Int := if hw : 0 ≤ w then (stabW w hw).all (srt vs).reverse else []
def sprdT (w : Int) (vs : List Int) : List Int := if hw : 0 ≤ w then (sprdW w hw).all (srt vs) else []
theorem stabT_eq {w : Int} (hw : 0 ≤ w) (vs : List Int) : stabT w vs = (stabW w hw).all (srt vs).reverse := dif_pos hw
theorem sprdT_eq {w : Int} (hw : 0 ≤ w) (vs : List Int) : sprdT w vs = (sprdW w hw).all (srt vs) := dif_pos hw
theorem stab_runs {w : Int} (hw : 0 ≤ w) (vs : List Int) : Runs (stabW w hw) vs [] (stabT w vs) := by
  rw [stabT_eq hw]
  refine (stabW w hw).runs vs _ (fun v => by rw [List.mem_reverse, srt_mem]) ?_ (fun a => Int.le_refl a)
  rw [List.pairwise_reverse]
  exact srt_sorted vs
theorem sprd_runs {w : Int} (hw : 0 ≤ w) (vs : List Int) : Runs (sprdW w hw) vs [] (sprdT w vs) := by
  rw [sprdT_eq hw]
  exact (sprdW w hw).runs vs _ (fun v => (srt_mem vs v).symm) (srt_sorted vs) (fun a => Int.le_refl a)
theorem stabT_len (w : Int) (vs : List Int) : (stabT w vs).length ≤ vs.length := by
  unfold stabT; split
  · exact Nat.le_trans (Way.all_len _ _) (by rw [List.length_reverse, srt_len]; exact Nat.le_refl _)
  · simp
theorem sprdT_len (w : Int) (vs : List Int) : (sprdT w vs).length ≤ vs.length := by
  unfold sprdT; split
  · exact Nat.le_trans (Way.all_len _ _) (by rw [srt_len]; exact Nat.le_refl _)
  · simp

/-- what runs keep -/
theorem Runs.keeps {A : Way} {vs st fin : List Int} (h : Runs A vs st fin) (Q : List Int → Prop) (hs : ∀ s v, Q s → v ∈ vs → A.opn s.getLast? v = true → Q (s ++ [A.f v])) (h0 : Q st) : Q fin := by
  induction h with
  | done _ => exact h0
  | step hm ho _ _ ih => exact ih (hs _ _ h0 hm ho)
theorem Runs.ends {A : Way} {vs st fin : List Int} (h : Runs A vs st fin) : ∀ v, v ∈ vs → A.opn fin.getLast? v = false := by
  induction h with
  | done hd => exact hd
  | step _ _ _ _ ih => exact ih

/-- sizes of width w that begin at st cover v -/
def cov (w : Int) (st : List Int) (v : Int) : Bool := st.any fun s => decide (s ≤ v) && decide (v ≤ s + w)
theorem cov_iff {w : Int} {st : List Int} {v : Int} : cov w st v = true ↔ ∃ s, s ∈ st ∧ s ≤ v ∧ v ≤ s + w := by
  unfold cov
  rw [List.any_eq_true]
  simp
def covs (w : Int) (st vs : List Int) : Bool := vs.all (cov w st)
theorem covs_iff {w : Int} {st vs : List Int} : covs w st vs = true ↔ ∀ v, v ∈ vs → ∃ s, s ∈ st ∧ s ≤ v ∧ v ≤ s + w := by
  unfold covs
  rw [List.all_eq_true]
  exact ⟨fun h v hv => cov_iff.1 (h v hv), fun h v hv => cov_iff.2 (h v hv)⟩

/-- values that are pairwise farther apart than a width need as many sizes -/
theorem pigeon (w : Int) : ∀ (a b : List Int), a.Pairwise (fun x y => x + w < y) → (∀ x, x ∈ a → ∃ s, s ∈ b ∧ s ≤ x ∧ x ≤ s + w) → a.length ≤ b.length := by
  intro a
  induction a with
  | nil => intro b _ _; simp
  | cons x a ih =>
    intro b hp hc
    have hp' := List.pairwise_cons.1 hp
    obtain ⟨s, hs, h1, h2⟩ := hc x (List.mem_cons_self ..)
    have := ih (b.erase s) hp'.2 (fun y hy => by
      obtain ⟨t, ht, h3, h4⟩ := hc y (List.mem_cons_of_mem _ hy)
      refine ⟨t, (List.mem_erase_of_ne ?_).2 ht, h3, h4⟩
      rintro rfl
      have := hp'.1 y hy
      omega)
    rw [List.length_erase_of_mem hs] at this
    have : 0 < b.length := List.length_pos_of_mem hs
    simp; omega

/-- Spread's values are farther apart than the width, and values -/
theorem sprd_apart {w : Int} (hw : 0 ≤ w) (vs : List Int) : (sprdT w vs).Pairwise (fun x y => x + w < y) ∧ ∀ x, x ∈ sprdT w vs → x ∈ vs := by
  refine (sprd_runs hw vs).keeps (fun s => s.Pairwise (fun x y => x + w < y) ∧ ∀ x, x ∈ s → x ∈ vs) ?_ ⟨.nil, by simp⟩
  rintro s v ⟨h1, h2⟩ hv ho
  refine ⟨List.pairwise_append.2 ⟨h1, List.pairwise_singleton _ _, ?_⟩, fun x hx => ?_⟩
  · intro x hx y hy
    have hy' : y = v := List.mem_singleton.1 hy
    subst hy'
    rcases List.eq_nil_or_concat s with e | ⟨p, a, e⟩
    · rw [e] at hx; cases hx
    · rw [List.concat_eq_append] at e
      subst e
      rw [List.getLast?_concat] at ho
      have ho' : a + w < y := by simpa [sprdW] using ho
      rcases List.mem_append.1 hx with h | h
      · have := (List.pairwise_append.1 h1).2.2 x h a (List.mem_singleton.2 rfl); omega
      · rw [List.mem_singleton.1 h]; omega
  · rcases List.mem_append.1 hx with h | h
    · exact h2 x h
    · have : x = v := by simpa [sprdW] using h
      rw [this]; exact hv
/-- Stab's tops: pairwise farther apart than the width, and values -/
theorem stab_apart {w : Int} (hw : 0 ≤ w) (vs : List Int) : (stabT w vs).Pairwise (fun x y => y + w < x) ∧ ∀ x, x ∈ stabT w vs → x + w ∈ vs := by
  refine (stab_runs hw vs).keeps (fun s => s.Pairwise (fun x y => y + w < x) ∧ ∀ x, x ∈ s → x + w ∈ vs) ?_ ⟨.nil, by simp⟩
  rintro s v ⟨h1, h2⟩ hv ho
  refine ⟨List.pairwise_append.2 ⟨h1, List.pairwise_singleton _ _, ?_⟩, fun x hx => ?_⟩
  · intro x hx y hy
    have hy' : y = v - w := List.mem_singleton.1 hy
    subst hy'
    rcases List.eq_nil_or_concat s with e | ⟨p, a, e⟩
    · rw [e] at hx; cases hx
    · rw [List.concat_eq_append] at e
      subst e
      rw [List.getLast?_concat] at ho
      have ho' : v < a := by simpa [stabW] using ho
      rcases List.mem_append.1 hx with h | h
      · have := (List.pairwise_append.1 h1).2.2 x h a (List.mem_singleton.2 rfl); omega
      · rw [List.mem_singleton.1 h]; omega
  · rcases List.mem_append.1 hx with h | h
    · exact h2 x h
    · have : x = v - w := by simpa [stabW] using h
      rw [this]
      have e : v - w + w = v := by omega
      rw [e]; exact hv
/-- what is chosen covers whatever is not open -/
theorem stab_covers {w : Int} (hw : 0 ≤ w) (vs : List Int) : ∀ v, v ∈ vs → ∃ s, s ∈ stabT w vs ∧ s ≤ v ∧ v ≤ s + w := by
  have hr := stab_runs hw vs
  have hk : ∀ {st fin : List Int}, Runs (stabW w hw) vs st fin → (∀ v, v ∈ vs → (stabW w hw).opn st.getLast? v = true ∨ ∃ s, s ∈ st ∧ s ≤ v ∧ v ≤ s + w) →
      (∀ v, v ∈ vs → ∃ s, s ∈ fin ∧ s ≤ v ∧ v ≤ s + w) := by
    intro st fin h
    induction h with
    | done hd => intro h v hv; rcases h v hv with e | e; rw [hd v hv] at e; cases e; exact e
    | @step st t fin hm ho hb _ ih =>
      intro h
      refine ih fun v hv => ?_
      rcases h v hv with e | ⟨s, hs, h1, h2⟩
      · have hle : v ≤ t := hb v hv e
        by_cases hlt : v < t - w
        · left; rw [List.getLast?_concat]; simp [stabW]; omega
        · right; exact ⟨t - w, List.mem_append.2 (.inr (List.mem_singleton.2 rfl)), by omega, by omega⟩
      · exact .inr ⟨s, List.mem_append.2 (.inl hs), h1, h2⟩
  exact hk hr (fun v _ => .inl rfl)
theorem sprd_covers {w : Int} (hw : 0 ≤ w) (vs : List Int) : ∀ v, v ∈ vs → ∃ s, s ∈ sprdT w vs ∧ s ≤ v ∧ v ≤ s + w := by
  have hr := sprd_runs hw vs
  have hk : ∀ {st fin : List Int}, Runs (sprdW w hw) vs st fin → (∀ v, v ∈ vs → (sprdW w hw).opn st.getLast? v = true ∨ ∃ s, s ∈ st ∧ s ≤ v ∧ v ≤ s + w) →
      (∀ v, v ∈ vs → ∃ s, s ∈ fin ∧ s ≤ v ∧ v ≤ s + w) := by
    intro st fin h
    induction h with
    | done hd => intro h v hv; rcases h v hv with e | e; rw [hd v hv] at e; cases e; exact e
    | @step st t fin hm ho hb _ ih =>
      intro h
      refine ih fun v hv => ?_
      rcases h v hv with e | ⟨s, hs, h1, h2⟩
      · have hle : t ≤ v := hb v hv e
        by_cases hlt : t + w < v
        · left; rw [List.getLast?_concat]; simp [sprdW]; omega
        · right; exact ⟨t, List.mem_append.2 (.inr (List.mem_singleton.2 rfl)), by omega, by omega⟩
      · exact .inr ⟨s, List.mem_append.2 (.inl hs), h1, h2⟩
  exact hk hr (fun v _ => .inl rfl)

/-- Stab has as many sizes as Spread has values -/
theorem stab_sprd {w : Int} (hw : 0 ≤ w) (vs : List Int) : (stabT w vs).length = (sprdT w vs).length := by
  have a1 := sprd_apart hw vs
  have a2 := stab_apart hw vs
  have l1 : (sprdT w vs).length ≤ (stabT w vs).length := pigeon w _ _ a1.1 (fun x hx => stab_covers hw vs x (a1.2 x hx))
  have l2 : ((stabT w vs).map (· + w)).reverse.length ≤ (sprdT w vs).length := by
    refine pigeon w _ _ ?_ ?_
    · rw [List.pairwise_reverse, List.pairwise_map]
      exact a2.1.imp (by intro a b h; omega)
    · intro x hx
      obtain ⟨s, hs, rfl⟩ := List.mem_map.1 (List.mem_reverse.1 hx)
      exact sprd_covers hw vs _ (a2.2 s hs)
  simp at l2
  omega
/-- whatever sizes cover the values: there are at least as many as Spread has values -/
theorem sprd_least {w : Int} (hw : 0 ≤ w) {vs st : List Int} (h : covs w st vs = true) : (sprdT w vs).length ≤ st.length := by
  have a1 := sprd_apart hw vs
  exact pigeon w _ _ a1.1 (fun x hx => covs_iff.1 h x (a1.2 x hx))
end Go.Proofs.YtghbipipehglfaaDoor.Pl
