/- Match by the least of those that are not gone. -/
import Derived.Test.YtmjnlmmjfbpogaaP9
namespace Go.Proofs.Ytmjnlmmjfbpogaa.Pl

/-- the indexes of a side and a colour that are not gone -/
def lf (l : List Tm) (g : Nat → Bool) (side c : Int) : List Nat := (grp l side c).filter fun i => !g i
def hd : List Nat → Int
  | [] => -1
  | i :: _ => i
def okb (l : List Tm) (g : Nat → Bool) (side c : Int) (i : Nat) : Prop := g i = false ∧ (at' l i).side = side ∧ (at' l i).col = c
/-- the best of the first i -/
def Bst (l : List Tm) (g : Nat → Bool) (side c : Int) (i : Nat) (best : Int) : Prop :=
  (best = -1 ∧ ∀ j, j < i → ¬ okb l g side c j) ∨ ∃ b : Nat, best = b ∧ b < i ∧ okb l g side c b ∧ ∀ j, j < i → okb l g side c j → j ≠ b → Low (at' l b) (at' l j)
section
variable {l : List Tm} {g : Nat → Bool} {side c : Int} {i : Nat} {best : Int}
theorem Bst.start : Bst l g side c 0 (-1) := .inl ⟨rfl, fun _ h => absurd h (Nat.not_lt_zero _)⟩
theorem Bst.skip (h : Bst l g side c i best) (hn : ¬ okb l g side c i) : Bst l g side c (i + 1) best := by
  rcases h with ⟨h1, h2⟩ | ⟨b, h1, h2, h3, h4⟩
  · refine .inl ⟨h1, fun j hj => ?_⟩
    by_cases e : j = i
    · subst e; exact hn
    · exact h2 j (by omega)
  · refine .inr ⟨b, h1, by omega, h3, fun j hj ho hne => ?_⟩
    by_cases e : j = i
    · subst e; exact absurd ho hn
    · exact h4 j (by omega) ho hne
theorem Bst.first (h : Bst l g side c i best) (hb : best = -1) (hn : okb l g side c i) : Bst l g side c (i + 1) i := by
  rcases h with ⟨h1, h2⟩ | ⟨b, h1, h2, h3, h4⟩
  · refine .inr ⟨i, rfl, by omega, hn, fun j hj ho hne => absurd ho (h2 j (by omega))⟩
  · omega
theorem Bst.new {b : Nat} (h : Bst l g side c i b) (hl : Low (at' l i) (at' l b)) (hn : okb l g side c i) : Bst l g side c (i + 1) i := by
  rcases h with ⟨h1, h2⟩ | ⟨b', h1, h2, h3, h4⟩
  · omega
  · obtain rfl : b = b' := by omega
    refine .inr ⟨i, rfl, by omega, hn, fun j hj ho hne => ?_⟩
    by_cases e : j = b
    · subst e; exact hl
    · have := h4 j (by omega) ho e
      unfold Low at *; omega
theorem Bst.keep {b : Nat} (h : Bst l g side c i b) (ho : Ok l) (hl : ¬ Low (at' l i) (at' l b)) : Bst l g side c (i + 1) b := by
  rcases h with ⟨h1, h2⟩ | ⟨b', h1, h2, h3, h4⟩
  · omega
  · obtain rfl : b = b' := by omega
    refine .inr ⟨b, rfl, by omega, h3, fun j hj hoj hne => ?_⟩
    by_cases e : j = i
    · subst e
      rcases low_total (at' l j) (at' l b) (fun e => hne (ho.num _ _ e)) with e | e
      · exact absurd e hl
      · exact e
    · exact h4 j (by omega) hoj hne
theorem Bst.lt (h : Bst l g side c i best) : best = -1 ∨ ∃ b : Nat, best = b ∧ b < i := by
  rcases h with ⟨h1, _⟩ | ⟨b, h1, h2, _⟩
  · exact .inl h1
  · exact .inr ⟨b, h1, h2⟩
theorem lf_mem {j : Nat} : j ∈ lf l g side c ↔ j < l.length ∧ okb l g side c j := by
  unfold lf okb
  rw [List.mem_filter, grp_mem, Bool.not_eq_true']
  constructor
  · rintro ⟨⟨h1, h2, h3⟩, h4⟩; exact ⟨h1, h4, h2, h3⟩
  · rintro ⟨h1, h4, h2, h3⟩; exact ⟨⟨h1, h2, h3⟩, h4⟩
theorem lf_rise (ho : Ok l) : (lf l g side c).Pairwise fun i j => Low (at' l i) (at' l j) :=
  ((ord_rise ho).filter _).filter _
theorem lf_nodup : (lf l g side c).Nodup := ((ord_nodup l).filter _).filter _
theorem Bst.fin (h : Bst l g side c l.length best) (ho : Ok l) : best = hd (lf l g side c) := by
  have hm := fun j => lf_mem (l := l) (g := g) (side := side) (c := c) (j := j)
  have hr := lf_rise (g := g) (side := side) (c := c) ho
  cases hx : lf l g side c with
  | nil =>
    rw [hx] at hm
    rcases h with ⟨h1, _⟩ | ⟨b, h1, h2, h3, _⟩
    · exact h1
    · exact absurd ((hm b).2 ⟨h2, h3⟩) (by simp)
  | cons x xs =>
    rw [hx] at hm hr
    obtain ⟨hxl, hxo⟩ := (hm x).1 (by simp)
    rcases h with ⟨h1, h2⟩ | ⟨b, h1, h2, h3, h4⟩
    · exact absurd hxo (h2 x hxl)
    · rw [h1]
      show (b : Int) = x
      by_cases e : b = x
      · rw [e]
      · have hb : b ∈ xs := by
          rcases List.mem_cons.1 ((hm b).2 ⟨h2, h3⟩) with e' | e'
          · exact absurd e' e
          · exact e'
        have h5 := (List.pairwise_cons.1 hr).1 b hb
        have h6 := h4 x hxl hxo (fun e' => e e'.symm)
        unfold Low at *; omega
end
/-- gone too -/
def gn (g : Nat → Bool) (k : Nat) : Nat → Bool := fun q => decide (q = k) || g q
theorem lf_gn {l : List Tm} {g : Nat → Bool} {side c : Int} {k : Nat} : lf l (gn g k) side c = (lf l g side c).filter fun i => decide (i ≠ k) := by
  unfold lf gn
  rw [List.filter_filter]
  congr 1
  funext i
  by_cases e : i = k <;> cases g i <;> simp [e]
theorem lf_head {l : List Tm} {g : Nat → Bool} {side c : Int} {k : Nat} {xs : List Nat} (h : lf l g side c = k :: xs) : lf l (gn g k) side c = xs := by
  have hn := lf_nodup (l := l) (g := g) (side := side) (c := c)
  rw [lf_gn, h]
  rw [h, List.nodup_cons] at hn
  rw [List.filter_cons, if_neg (by simp)]
  rw [List.filter_eq_self]
  intro a ha
  exact decide_eq_true fun e => hn.1 (e ▸ ha)
theorem lf_other {l : List Tm} {g : Nat → Bool} {side c : Int} {k : Nat} (h : k ∉ lf l g side c) : lf l (gn g k) side c = lf l g side c := by
  rw [lf_gn, List.filter_eq_self]
  intro a ha
  exact decide_eq_true fun e => h (e ▸ ha)
/-- the loop of one colour: what is made and what is to come -/
structure Mk (l : List Tm) (tol : Int) (g : Nat → Bool) (k : Nat) (out : List (Nat × Nat)) : Prop where
  tot : out ++ mc l tol (lf l g 1 (k + 1)) (lf l g 2 (k + 1)) = mtn l tol (k + 1)
  old : ∀ j, j < l.length → g j = true → (at' l j).col ≤ (k : Int) + 1
/-- between two colours -/
structure Mo' (l : List Tm) (tol : Int) (g : Nat → Bool) (k : Nat) (out : List (Nat × Nat)) : Prop where
  tot : out = mtn l tol k
  old : ∀ j, j < l.length → g j = true → (at' l j).col ≤ (k : Int)
section
variable {l : List Tm} {tol : Int} {g : Nat → Bool} {k : Nat} {out : List (Nat × Nat)}
theorem Mo'.start : Mo' l tol (fun _ => false) 0 [] := ⟨rfl, fun _ _ h => by cases h⟩
theorem lf_all {side : Int} (h : ∀ j, j < l.length → g j = true → (at' l j).col ≤ (k : Int)) : lf l g side (k + 1) = grp l side (k + 1) := by
  unfold lf
  rw [List.filter_eq_self]
  intro a ha
  obtain ⟨h1, h2, h3⟩ := grp_mem.1 ha
  cases e : g a with
  | false => rfl
  | true => have := h a h1 e; omega
theorem Mo'.in (h : Mo' l tol g k out) : Mk l tol g k out :=
  ⟨by rw [lf_all h.old, lf_all h.old, h.tot]; rfl, fun j hj e => by have := h.old j hj e; omega⟩
theorem Mk.leave (h : Mk l tol g k out) (he : lf l g 1 (k + 1) = [] ∨ lf l g 2 (k + 1) = []) : Mo' l tol g (k + 1) out := by
  refine ⟨?_, fun j hj e => by have := h.old j hj e; omega⟩
  rw [← h.tot]
  rcases he with e | e
  · rw [e, mc, List.append_nil]
  · rw [e]
    cases lf l g 1 (k + 1) with
    | nil => rw [mc, List.append_nil]
    | cons x xs => rw [mc, List.append_nil]
theorem lf_in {side : Int} {p : Nat} {P : List Nat} (h : lf l g side (k + 1) = p :: P) : p < l.length ∧ (at' l p).side = side ∧ (at' l p).col = (k : Int) + 1 := by
  obtain ⟨h1, h2, h3, h4⟩ := lf_mem.1 (show p ∈ lf l g side (k + 1) by rw [h]; simp)
  exact ⟨h1, h3, h4⟩
theorem not_lf {side side' : Int} {p : Nat} {P : List Nat} (h : lf l g side (k + 1) = p :: P) (hne : side ≠ side') (g' : Nat → Bool) : p ∉ lf l g' side' (k + 1) := fun h' => by
  obtain ⟨h1, h2, h3, h4⟩ := lf_mem.1 h'
  exact hne ((lf_in h).2.1.symm.trans h3)
theorem gn_old {p : Nat} (h : Mk l tol g k out) (hp : (at' l p).col = (k : Int) + 1) : ∀ j, j < l.length → gn g p j = true → (at' l j).col ≤ (k : Int) + 1 := fun j hj e => by
  unfold gn at e
  by_cases e' : j = p
  · subst e'; omega
  · rw [decide_eq_false e', Bool.false_or] at e; exact h.old j hj e
variable {p q : Nat} {P Q : List Nat}
theorem can_apart (h1 : lf l g 1 (k + 1) = p :: P) (h2 : lf l g 2 (k + 1) = q :: Q) : can (at' l p) (at' l q) tol = true ↔ ap (at' l p) (at' l q) ≤ tol := by
  obtain ⟨_, a2, a3⟩ := lf_in h1
  obtain ⟨_, b2, b3⟩ := lf_in h2
  rw [ap_can]
  exact ⟨fun h => h.2.2, fun h => ⟨by rw [a2, b2]; decide, by rw [a3, b3], h⟩⟩
theorem Mk.pair (h : Mk l tol g k out) (h1 : lf l g 1 (k + 1) = p :: P) (h2 : lf l g 2 (k + 1) = q :: Q) (hc : ap (at' l p) (at' l q) ≤ tol) : Mk l tol (gn (gn g p) q) k (out ++ [(p, q)]) := by
  have e1 : lf l (gn (gn g p) q) 1 (k + 1) = P := by rw [lf_other (not_lf h2 (by decide) _), lf_head h1]
  have e2 : lf l (gn (gn g p) q) 2 (k + 1) = Q := lf_head (by rw [lf_other (not_lf h1 (by decide) _), h2])
  refine ⟨?_, ?_⟩
  · rw [e1, e2, ← h.tot, h1, h2, mc, if_pos ((can_apart h1 h2).2 hc), List.append_assoc]; rfl
  · intro j hj e
    unfold gn at e
    by_cases e1 : j = q
    · subst e1; have := (lf_in h2).2.2; omega
    by_cases e2 : j = p
    · subst e2; have := (lf_in h1).2.2; omega
    rw [decide_eq_false e1, decide_eq_false e2, Bool.false_or, Bool.false_or] at e
    exact h.old j hj e
theorem Mk.left (h : Mk l tol g k out) (h1 : lf l g 1 (k + 1) = p :: P) (h2 : lf l g 2 (k + 1) = q :: Q) (hc : ¬ ap (at' l p) (at' l q) ≤ tol) (hl : (at' l p).len < (at' l q).len) : Mk l tol (gn g p) k out := by
  refine ⟨?_, gn_old h (lf_in h1).2.2⟩
  rw [lf_head h1, lf_other (not_lf h1 (by decide) _), ← h.tot, h1, h2]
  rw [mc.eq_def l tol (p :: P)]
  simp only
  rw [if_neg (fun e => hc ((can_apart h1 h2).1 e)), if_pos hl]
theorem Mk.right (h : Mk l tol g k out) (h1 : lf l g 1 (k + 1) = p :: P) (h2 : lf l g 2 (k + 1) = q :: Q) (hc : ¬ ap (at' l p) (at' l q) ≤ tol) (hl : ¬ (at' l p).len < (at' l q).len) : Mk l tol (gn g q) k out := by
  refine ⟨?_, gn_old h (lf_in h2).2.2⟩
  rw [lf_head h2, lf_other (not_lf h2 (by decide) _), ← h.tot, h1, h2]
  rw [mc.eq_def l tol (p :: P) (q :: Q)]
  simp only
  rw [if_neg (fun e => hc ((can_apart h1 h2).1 e)), if_neg hl]
end
/-- how many are not gone: the loop's measure -/
def cnt (l : List Tm) (g : Nat → Bool) (k : Nat) : Nat := (lf l g 1 (k + 1)).length + (lf l g 2 (k + 1)).length
theorem hd_nil {L : List Nat} : hd L < 0 ↔ L = [] := by
  cases L with
  | nil => simp [hd]
  | cons x xs => simp [hd]
section
variable {l : List Tm} {g : Nat → Bool} {k p q : Nat} {P Q : List Nat}
theorem cnt_pair (h1 : lf l g 1 (k + 1) = p :: P) (h2 : lf l g 2 (k + 1) = q :: Q) : cnt l (gn (gn g p) q) k < cnt l g k := by
  unfold cnt
  rw [lf_other (not_lf h2 (by decide) _), lf_head h1, lf_head (k := q) (by rw [lf_other (not_lf h1 (by decide) _), h2]), h1, h2]
  simp; omega
theorem cnt_left (h1 : lf l g 1 (k + 1) = p :: P) : cnt l (gn g p) k < cnt l g k := by
  unfold cnt
  rw [lf_head h1, lf_other (not_lf h1 (by decide) _), h1]
  simp
theorem cnt_right (h2 : lf l g 2 (k + 1) = q :: Q) : cnt l (gn g q) k < cnt l g k := by
  unfold cnt
  rw [lf_head h2, lf_other (not_lf h2 (by decide) _), h2]
  simp
theorem lf_hd {side : Int} (h : 0 ≤ hd (lf l g side (k + 1))) : ∃ p P, lf l g side (k + 1) = p :: P ∧ hd (lf l g side (k + 1)) = p := by
  cases e : lf l g side (k + 1) with
  | nil => rw [e] at h; simp [hd] at h
  | cons p P => exact ⟨p, P, rfl, rfl⟩
theorem lf_no {side : Int} (h : ¬ 0 ≤ hd (lf l g side (k + 1))) : lf l g side (k + 1) = [] := by
  cases e : lf l g side (k + 1) with
  | nil => rfl
  | cons p P => rw [e] at h; simp [hd] at h
end
end Go.Proofs.Ytmjnlmmjfbpogaa.Pl
