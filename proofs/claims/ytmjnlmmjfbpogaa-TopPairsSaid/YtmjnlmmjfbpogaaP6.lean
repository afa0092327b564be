/- Plain: pairs that share no temple; what Match makes is one with the most. -/
import Derived.Test.YtmjnlmmjfbpogaaP2
namespace Go.Proofs.Ytmjnlmmjfbpogaa.Pl

/-- pairs that are related, of which no two share a first or a second one -/
structure Mch (R : Nat → Nat → Prop) (M : List (Nat × Nat)) : Prop where
  rel : ∀ e, e ∈ M → R e.1 e.2
  n1 : (M.map (·.1)).Nodup
  n2 : (M.map (·.2)).Nodup
theorem Mch.nil (R : Nat → Nat → Prop) : Mch R [] := ⟨by simp, by simp, by simp⟩
theorem Mch.perm {R : Nat → Nat → Prop} {M N : List (Nat × Nat)} (h : Mch R M) (p : M.Perm N) : Mch R N :=
  ⟨fun e he => h.rel e (p.mem_iff.2 he), (p.map _).nodup_iff.1 h.n1, (p.map _).nodup_iff.1 h.n2⟩
theorem Mch.tail {R : Nat → Nat → Prop} {e : Nat × Nat} {M : List (Nat × Nat)} (h : Mch R (e :: M)) : Mch R M ∧ (∀ x, x ∈ M → x.1 ≠ e.1) ∧ ∀ x, x ∈ M → x.2 ≠ e.2 := by
  obtain ⟨h1, h2, h3⟩ := h
  rw [List.map_cons, List.nodup_cons] at h2 h3
  exact ⟨⟨fun x hx => h1 x (List.mem_cons_of_mem _ hx), h2.2, h3.2⟩, fun x hx e' => h2.1 (List.mem_map.2 ⟨x, hx, e'⟩), fun x hx e' => h3.1 (List.mem_map.2 ⟨x, hx, e'⟩)⟩
theorem Mch.cons {R : Nat → Nat → Prop} {e : Nat × Nat} {M : List (Nat × Nat)} (h : Mch R M) (hr : R e.1 e.2) (h1 : ∀ x, x ∈ M → x.1 ≠ e.1) (h2 : ∀ x, x ∈ M → x.2 ≠ e.2) : Mch R (e :: M) := by
  refine ⟨fun x hx => ?_, ?_, ?_⟩
  · rcases List.mem_cons.1 hx with rfl | hx
    · exact hr
    · exact h.rel x hx
  · rw [List.map_cons, List.nodup_cons]
    exact ⟨fun hm => by obtain ⟨x, hx, e'⟩ := List.mem_map.1 hm; exact h1 x hx e', h.n1⟩
  · rw [List.map_cons, List.nodup_cons]
    exact ⟨fun hm => by obtain ⟨x, hx, e'⟩ := List.mem_map.1 hm; exact h2 x hx e', h.n2⟩
theorem Mch.imp {R S : Nat → Nat → Prop} {M : List (Nat × Nat)} (h : Mch R M) (hs : ∀ e, e ∈ M → R e.1 e.2 → S e.1 e.2) : Mch S M := ⟨fun e he => hs e he (h.rel e he), h.n1, h.n2⟩
theorem Mch.filter {R : Nat → Nat → Prop} {M : List (Nat × Nat)} (h : Mch R M) (p : Nat × Nat → Bool) : Mch R (M.filter p) :=
  ⟨fun e he => h.rel e (List.mem_filter.1 he).1, (List.filter_sublist.map _).nodup h.n1, (List.filter_sublist.map _).nodup h.n2⟩
/-- an element goes to the front -/
theorem front {M : List (Nat × Nat)} {e : Nat × Nat} (h : e ∈ M) : ∃ M', M.Perm (e :: M') ∧ M.length = M'.length + 1 :=
  ⟨M.erase e, List.perm_cons_erase h, by have := (List.perm_cons_erase h).length_eq; simpa using this⟩

/-- sorted by length -/
def Srt (l : List Tm) (p : List Nat) : Prop := p.Pairwise fun i j => (at' l i).len ≤ (at' l j).len
/-- two of a left and a right group can be a pair -/
def Bt (l : List Tm) (tol : Int) (p q : List Nat) (a b : Nat) : Prop := a ∈ p ∧ b ∈ q ∧ can (at' l a) (at' l b) tol = true
/-- all of the groups can be paired but for their lengths -/
def Same (l : List Tm) (p q : List Nat) : Prop := ∀ a, a ∈ p → ∀ b, b ∈ q → (at' l a).side ≠ (at' l b).side ∧ (at' l a).col = (at' l b).col
theorem can_iff {l : List Tm} {tol : Int} {p q : List Nat} (h : Same l p q) {a b : Nat} (ha : a ∈ p) (hb : b ∈ q) : can (at' l a) (at' l b) tol = true ↔ -tol ≤ (at' l a).len - (at' l b).len ∧ (at' l a).len - (at' l b).len ≤ tol := by
  have := h a ha b hb
  unfold can
  rw [Bool.and_eq_true, Bool.and_eq_true, decide_eq_true_iff, decide_eq_true_iff, inB_true]
  simp [this]

theorem mc_bound {l : List Tm} {tol : Int} : ∀ {p q : List Nat}, Srt l p → Srt l q → Same l p q → ∀ M, Mch (Bt l tol p q) M → M.length ≤ (mc l tol p q).length
  | [], q, _, _, _, M, h => by
    match M with
    | [] => simp
    | e :: M => exact absurd (h.rel e (by simp)).1 (by simp)
  | i :: p, [], _, _, _, M, h => by
    match M with
    | [] => simp
    | e :: M => exact absurd (h.rel e (by simp)).2.1 (by simp)
  | i :: p, j :: q, hp, hq, hs, M, h => by
    have hp1 := List.pairwise_cons.1 hp
    have hq1 := List.pairwise_cons.1 hq
    -- what avoids i and j lies in the rest
    have rest : ∀ N : List (Nat × Nat), Mch (Bt l tol (i :: p) (j :: q)) N → (∀ x, x ∈ N → x.1 ≠ i) → (∀ x, x ∈ N → x.2 ≠ j) → Mch (Bt l tol p q) N := fun N hN h1 h2 =>
      hN.imp fun e he hr => ⟨(List.mem_cons.1 hr.1).resolve_left (h1 e he), (List.mem_cons.1 hr.2.1).resolve_left (h2 e he), hr.2.2⟩
    have hs' : Same l p q := fun a ha b hb => hs a (List.mem_cons_of_mem _ ha) b (List.mem_cons_of_mem _ hb)
    rw [mc]
    by_cases hc : can (at' l i) (at' l j) tol = true
    · rw [if_pos hc, List.length_cons]
      have ih := fun N (hN : Mch (Bt l tol p q) N) => mc_bound (tol := tol) hp1.2 hq1.2 hs' N hN
      have cij := (can_iff hs (List.mem_cons_self ..) (List.mem_cons_self ..)).1 hc
      by_cases h1 : ∃ j', (i, j') ∈ M
      · obtain ⟨j', hj'⟩ := h1
        obtain ⟨M1, pm, len1⟩ := front hj'
        have hm := h.perm pm
        obtain ⟨hM1, a1, a2⟩ := hm.tail
        have hrel := hm.rel (i, j') (by simp)
        by_cases h2 : j' = j
        · subst h2
          have := ih M1 (rest M1 hM1 a1 a2)
          omega
        · by_cases h3 : ∃ i', (i', j) ∈ M1
          · obtain ⟨i', hi'⟩ := h3
            obtain ⟨M2, pm2, len2⟩ := front hi'
            have hm2 := hM1.perm pm2
            obtain ⟨hM2, b1, b2⟩ := hm2.tail
            have hrel2 := hm2.rel (i', j) (by simp)
            have hi'i : i' ≠ i := a1 (i', j) hi'
            have i'p : i' ∈ p := (List.mem_cons.1 hrel2.1).resolve_left hi'i
            have j'q : j' ∈ q := (List.mem_cons.1 hrel.2.1).resolve_left h2
            have M2in : ∀ x, x ∈ M2 → x ∈ M1 := fun x hx => pm2.mem_iff.2 (List.mem_cons_of_mem _ hx)
            have hrest := rest M2 hM2 (fun x hx => a1 x (M2in x hx)) b2
            have e1 := (can_iff hs (List.mem_cons_self ..) hrel.2.1).1 hrel.2.2
            have e2 := (can_iff hs hrel2.1 (List.mem_cons_self ..)).1 hrel2.2.2
            have s1 := hp1.1 i' i'p
            have s2 := hq1.1 j' j'q
            have hcan : can (at' l i') (at' l j') tol = true := (can_iff hs' i'p j'q).2 (by dsimp only at e1 e2; omega)
            have := ih ((i', j') :: M2) (hrest.cons ⟨i'p, j'q, hcan⟩ b1 (fun x hx => a2 x (M2in x hx)))
            rw [List.length_cons] at this
            omega
          · have := ih M1 (rest M1 hM1 a1 (fun x hx e => h3 ⟨x.1, by rw [← e]; exact hx⟩))
            omega
      · have n1 : ∀ x, x ∈ M → x.1 ≠ i := fun x hx e => h1 ⟨x.2, by rw [← e]; exact hx⟩
        by_cases h3 : ∃ i', (i', j) ∈ M
        · obtain ⟨i', hi'⟩ := h3
          obtain ⟨M1, pm, len1⟩ := front hi'
          have hm := h.perm pm
          obtain ⟨hM1, a1, a2⟩ := hm.tail
          have := ih M1 (rest M1 hM1 (fun x hx => n1 x (pm.mem_iff.2 (List.mem_cons_of_mem _ hx))) a2)
          omega
        · have := ih M (rest M h n1 (fun x hx e => h3 ⟨x.1, by rw [← e]; exact hx⟩))
          omega
    · rw [if_neg hc]
      by_cases hl : (at' l i).len < (at' l j).len
      · rw [if_pos hl]
        refine mc_bound hp1.2 hq (fun a ha b hb => hs a (List.mem_cons_of_mem _ ha) b hb) M (h.imp fun e he hr => ⟨(List.mem_cons.1 hr.1).resolve_left fun e1 => ?_, hr.2.1, hr.2.2⟩)
        have c1 := (can_iff hs hr.1 hr.2.1).1 hr.2.2
        rw [e1] at c1
        have c2 : ¬ (-tol ≤ (at' l i).len - (at' l j).len ∧ (at' l i).len - (at' l j).len ≤ tol) := fun k => hc ((can_iff hs (List.mem_cons_self ..) (List.mem_cons_self ..)).2 k)
        have c3 : (at' l j).len ≤ (at' l e.2).len := by
          rcases List.mem_cons.1 hr.2.1 with k | k
          · rw [k]; exact Int.le_refl _
          · exact hq1.1 _ k
        omega
      · rw [if_neg hl]
        refine mc_bound hp hq1.2 (fun a ha b hb => hs a ha b (List.mem_cons_of_mem _ hb)) M (h.imp fun e he hr => ⟨hr.1, (List.mem_cons.1 hr.2.1).resolve_left fun e1 => ?_, hr.2.2⟩)
        have c1 := (can_iff hs hr.1 hr.2.1).1 hr.2.2
        rw [e1] at c1
        have c2 : ¬ (-tol ≤ (at' l i).len - (at' l j).len ∧ (at' l i).len - (at' l j).len ≤ tol) := fun k => hc ((can_iff hs (List.mem_cons_self ..) (List.mem_cons_self ..)).2 k)
        have c3 : (at' l i).len ≤ (at' l e.1).len := by
          rcases List.mem_cons.1 hr.1 with k | k
          · rw [k]; exact Int.le_refl _
          · exact hp1.1 _ k
        omega
termination_by p q => p.length + q.length

theorem mc_mch {l : List Tm} {tol : Int} : ∀ {p q : List Nat}, p.Nodup → q.Nodup → Mch (Bt l tol p q) (mc l tol p q)
  | [], q, _, _ => by rw [mc]; exact Mch.nil _
  | i :: p, [], _, _ => by rw [mc]; exact Mch.nil _
  | i :: p, j :: q, hp, hq => by
    have hp1 := List.nodup_cons.1 hp
    have hq1 := List.nodup_cons.1 hq
    rw [mc]
    split
    · rename_i hc
      have ih := mc_mch (l := l) (tol := tol) hp1.2 hq1.2
      refine (ih.imp fun e _ hr => ⟨List.mem_cons_of_mem _ hr.1, List.mem_cons_of_mem _ hr.2.1, hr.2.2⟩).cons ⟨List.mem_cons_self .., List.mem_cons_self .., hc⟩ (fun x hx e => ?_) (fun x hx e => ?_)
      · have k := (ih.rel x hx).1
        rw [show x.1 = i from e] at k
        exact hp1.1 k
      · have k := (ih.rel x hx).2.1
        rw [show x.2 = j from e] at k
        exact hq1.1 k
    · split
      · exact (mc_mch hp1.2 hq).imp fun e _ hr => ⟨List.mem_cons_of_mem _ hr.1, hr.2.1, hr.2.2⟩
      · exact (mc_mch hp hq1.2).imp fun e _ hr => ⟨hr.1, List.mem_cons_of_mem _ hr.2.1, hr.2.2⟩
termination_by p q => p.length + q.length

/-- a left and a right temple of the list that can be a pair -/
structure Ed (l : List Tm) (tol : Int) (i j : Nat) : Prop where
  a : i < l.length
  b : j < l.length
  s1 : (at' l i).side = 1
  s2 : (at' l j).side = 2
  can : Pl.can (at' l i) (at' l j) tol = true
theorem Ed.col {l : List Tm} {tol : Int} {a b : Nat} (h : Ed l tol a b) : (at' l a).col = (at' l b).col := by
  have := h.can
  unfold Pl.can at this
  rw [Bool.and_eq_true, Bool.and_eq_true, decide_eq_true_iff, decide_eq_true_iff] at this
  exact this.1.2
theorem grp_nodup (l : List Tm) (s c : Int) : (grp l s c).Nodup := List.Nodup.sublist List.filter_sublist (ord_nodup l)
theorem grp_srt {l : List Tm} (h : Ok l) (s c : Int) : Srt l (grp l s c) := by
  refine ((ord_rise h).sublist List.filter_sublist).imp fun {i j} hij => ?_
  unfold Low at hij; omega
theorem grp_same (l : List Tm) (c : Int) : Same l (grp l 1 c) (grp l 2 c) := fun a ha b hb => by
  have h1 := grp_mem.1 ha
  have h2 := grp_mem.1 hb
  exact ⟨by rw [h1.2.1, h2.2.1]; decide, by rw [h1.2.2, h2.2.2]⟩
/-- the colours from 1 to n -/
def Edn (l : List Tm) (tol : Int) (n : Nat) (a b : Nat) : Prop := Ed l tol a b ∧ 1 ≤ (at' l a).col ∧ (at' l a).col ≤ n
theorem mtn_mch {l : List Tm} {tol : Int} : ∀ n, Mch (Edn l tol n) (mtn l tol n)
  | 0 => Mch.nil _
  | n + 1 => by
    have h1 := mtn_mch (l := l) (tol := tol) n
    have h2 := mc_mch (l := l) (tol := tol) (grp_nodup l 1 ((n : Int) + 1)) (grp_nodup l 2 ((n : Int) + 1))
    have hx : ∀ e, e ∈ mc l tol (grp l 1 ((n : Int) + 1)) (grp l 2 ((n : Int) + 1)) → Ed l tol e.1 e.2 ∧ (at' l e.1).col = n + 1 := fun e he => by
      have hr := h2.rel e he
      have g1 := grp_mem.1 hr.1
      have g2 := grp_mem.1 hr.2.1
      exact ⟨⟨g1.1, g2.1, g1.2.1, g2.2.1, hr.2.2⟩, g1.2.2⟩
    refine ⟨fun e he => ?_, ?_, ?_⟩
    · rcases List.mem_append.1 he with h | h
      · obtain ⟨k1, k2, k3⟩ := h1.rel e h
        exact ⟨k1, k2, by omega⟩
      · obtain ⟨k1, k2⟩ := hx e h
        exact ⟨k1, by omega, by omega⟩
    · unfold mtn
      rw [List.map_append, List.nodup_append]
      refine ⟨h1.n1, h2.n1, fun a ha b hb e => ?_⟩
      obtain ⟨x, hxm, rfl⟩ := List.mem_map.1 ha
      obtain ⟨y, hym, rfl⟩ := List.mem_map.1 hb
      have k1 := (h1.rel x hxm).2.2
      have k2 := (hx y hym).2
      rw [← e] at k2
      omega
    · unfold mtn
      rw [List.map_append, List.nodup_append]
      refine ⟨h1.n2, h2.n2, fun a ha b hb e => ?_⟩
      obtain ⟨x, hxm, rfl⟩ := List.mem_map.1 ha
      obtain ⟨y, hym, rfl⟩ := List.mem_map.1 hb
      have k0 := (h1.rel x hxm)
      have k1 := k0.1.col
      have k3 := (hx y hym)
      have k4 := k3.1.col
      have k5 := k3.2
      have k6 := k0.2.2
      rw [← e] at k4
      omega
theorem mtn_bound {l : List Tm} (ho : Ok l) {tol : Int} : ∀ n (M : List (Nat × Nat)), Mch (Edn l tol n) M → M.length ≤ (mtn l tol n).length
  | 0, M, h => by
    match M with
    | [] => simp
    | e :: M =>
      have := h.rel e (by simp)
      obtain ⟨_, h1, h2⟩ := this
      omega
  | n + 1, M, h => by
    have hA := h.filter (fun e => decide ((at' l e.1).col = (n : Int) + 1))
    have hB := h.filter (fun e => !decide ((at' l e.1).col = (n : Int) + 1))
    have a1 := mtn_bound ho n _ (hB.imp (S := Edn l tol n) fun e he hr => by
      have := (List.mem_filter.1 he).2
      simp only [Bool.not_eq_true', decide_eq_false_iff_not] at this
      exact ⟨hr.1, hr.2.1, by have := hr.2.2; omega⟩)
    have a2 := mc_bound (tol := tol) (grp_srt ho 1 ((n : Int) + 1)) (grp_srt ho 2 ((n : Int) + 1)) (grp_same l ((n : Int) + 1)) _ (hA.imp (S := Bt l tol (grp l 1 ((n : Int) + 1)) (grp l 2 ((n : Int) + 1))) fun e he hr => by
      have := (List.mem_filter.1 he).2
      simp only [decide_eq_true_eq] at this
      exact ⟨grp_mem.2 ⟨hr.1.a, hr.1.s1, this⟩, grp_mem.2 ⟨hr.1.b, hr.1.s2, by rw [← hr.1.col]; exact this⟩, hr.1.can⟩)
    have a3 : M.length = (M.filter fun e => decide ((at' l e.1).col = (n : Int) + 1)).length + (M.filter fun e => !decide ((at' l e.1).col = (n : Int) + 1)).length := by
      rw [← List.countP_eq_length_filter, ← List.countP_eq_length_filter]
      exact List.length_eq_countP_add_countP (fun e : Nat × Nat => decide ((at' l e.1).col = (n : Int) + 1)) |>.trans (by congr 1; apply List.countP_congr; intro x _; simp)
    unfold mtn
    rw [List.length_append]
    omega
/-- what Match makes is a pairing, and none has more -/
theorem mt_mch (l : List Tm) (tol : Int) : Mch (Ed l tol) (mt l tol) := (mtn_mch 9).imp fun _ _ h => h.1
theorem mt_max {l : List Tm} (h : Ok l) {tol : Int} {M : List (Nat × Nat)} (hM : Mch (Ed l tol) M) : M.length ≤ (mt l tol).length :=
  mtn_bound h 9 M (hM.imp fun _ _ hr => ⟨hr, (h.vt _ hr.a).c1, (h.vt _ hr.a).c2⟩)

/-- a pairing of one list as one of another one -/
theorem Mch.map {R S : Nat → Nat → Prop} {M : List (Nat × Nat)} (h : Mch R M) (g : Nat → Nat) (hs : ∀ a b, R a b → S (g a) (g b)) (hi : ∀ a b c d, R a b → R c d → (g a = g c → a = c) ∧ (g b = g d → b = d)) : Mch S (M.map fun e => (g e.1, g e.2)) := by
  refine ⟨fun e he => ?_, ?_, ?_⟩
  · obtain ⟨x, hx, rfl⟩ := List.mem_map.1 he
    exact hs _ _ (h.rel x hx)
  · rw [List.map_map]
    have h1 := h.n1
    rw [List.nodup_iff_pairwise_ne, List.pairwise_map] at h1 ⊢
    exact h1.imp_of_mem fun {a b} ha hb hab e => hab ((hi _ _ _ _ (h.rel a ha) (h.rel b hb)).1 e)
  · rw [List.map_map]
    have h1 := h.n2
    rw [List.nodup_iff_pairwise_ne, List.pairwise_map] at h1 ⊢
    exact h1.imp_of_mem fun {a b} ha hb hab e => hab ((hi _ _ _ _ (h.rel a ha) (h.rel b hb)).2 e)
/-- a greater tolerance never has fewer -/
theorem mt_tol {l : List Tm} (h : Ok l) {tol tol' : Int} (ht : tol ≤ tol') : (mt l tol).length ≤ (mt l tol').length :=
  mt_max h ((mt_mch l tol).imp fun _ _ hr => ⟨hr.a, hr.b, hr.s1, hr.s2, by
    have := hr.can
    unfold can at this ⊢
    rw [Bool.and_eq_true, Bool.and_eq_true, inB_true] at this ⊢
    exact ⟨this.1, by omega, by omega⟩⟩)
/-- the same temples in another order have as many -/
theorem mt_turn {l l' : List Tm} (h : Ok l) {tol : Int} (g : Nat → Nat) (hg : ∀ i, i < l'.length → g i < l.length ∧ at' l' i = at' l (g i)) (hi : ∀ i j, i < l'.length → j < l'.length → g i = g j → i = j) : (mt l' tol).length ≤ (mt l tol).length := by
  have := mt_max h ((mt_mch l' tol).map (S := Ed l tol) g (fun a b hr => by
    obtain ⟨a1, a2⟩ := hg a hr.a
    obtain ⟨b1, b2⟩ := hg b hr.b
    exact ⟨a1, b1, by rw [← a2]; exact hr.s1, by rw [← b2]; exact hr.s2, by rw [← a2, ← b2]; exact hr.can⟩) (fun a b c d h1 h2 => ⟨hi a c h1.a h2.a, hi b d h1.b h2.b⟩))
  simpa using this
theorem at_append {l : List Tm} {x : Tm} {i : Nat} (hi : i < l.length) : at' (l ++ [x]) i = at' l i := by
  rw [at_lt hi, at_lt (by simp; omega), List.getElem_append_left hi]
/-- one more temple: at most one pair more, and none less -/
theorem mt_more {l : List Tm} {x : Tm} (h : Ok l) (h' : Ok (l ++ [x])) {tol : Int} : (mt l tol).length ≤ (mt (l ++ [x]) tol).length ∧ (mt (l ++ [x]) tol).length ≤ (mt l tol).length + 1 := by
  constructor
  · exact mt_max h' ((mt_mch l tol).imp fun e _ hr => ⟨by have := hr.a; simp; omega, by have := hr.b; simp; omega, by rw [at_append hr.a]; exact hr.s1, by rw [at_append hr.b]; exact hr.s2, by rw [at_append hr.a, at_append hr.b]; exact hr.can⟩)
  · have hm := mt_mch (l ++ [x]) tol
    generalize mt (l ++ [x]) tol = M at *
    have down : ∀ N : List (Nat × Nat), Mch (Ed (l ++ [x]) tol) N → (∀ e, e ∈ N → e.1 < l.length ∧ e.2 < l.length) → N.length ≤ (mt l tol).length := fun N hN hb =>
      mt_max h (hN.imp fun e he hr => by
        obtain ⟨h1, h2⟩ := hb e he
        exact ⟨h1, h2, by rw [← at_append h1]; exact hr.s1, by rw [← at_append h2]; exact hr.s2, by rw [← at_append h1, ← at_append h2]; exact hr.can⟩)
    have lim : ∀ e : Nat × Nat, Ed (l ++ [x]) tol e.1 e.2 → e.1 ≤ l.length ∧ e.2 ≤ l.length := fun (e : Nat × Nat) hr => by
      have h1 := hr.a
      have h2 := hr.b
      simp at h1 h2
      exact ⟨by omega, by omega⟩
    by_cases h1 : ∃ e, e ∈ M ∧ (e.1 = l.length ∨ e.2 = l.length)
    · obtain ⟨e, he, hb⟩ := h1
      obtain ⟨M1, pm, len⟩ := front he
      have hm2 := hm.perm pm
      obtain ⟨hM1, a1, a2⟩ := hm2.tail
      have := down M1 hM1 (fun y hy => by
        have hl := lim y (hM1.rel y hy)
        have ne1 := a1 y hy
        have ne2 := a2 y hy
        have hr := hm2.rel e (by simp)
        have ys := hM1.rel y hy
        have sides : ∀ a b : Nat, a = b → (at' (l ++ [x]) a).side = 1 → (at' (l ++ [x]) b).side = 2 → False := fun a b e h1 h2 => by rw [e] at h1; rw [h1] at h2; exact absurd h2 (by decide)
        rcases hb with hb | hb
        · refine ⟨by omega, ?_⟩
          rcases Nat.lt_or_ge y.2 l.length with k | k
          · exact k
          · exact (sides e.1 y.2 (by omega) hr.s1 ys.s2).elim
        · refine ⟨?_, by omega⟩
          rcases Nat.lt_or_ge y.1 l.length with k | k
          · exact k
          · exact (sides y.1 e.2 (by omega) ys.s1 hr.s2).elim)
      omega
    · have := down M hm (fun y hy => by
        have hl := lim y (hm.rel y hy)
        have k1 : ¬ y.1 = l.length := fun e => h1 ⟨y, hy, .inl e⟩
        have k2 : ¬ y.2 = l.length := fun e => h1 ⟨y, hy, .inr e⟩
        omega)
      omega
end Go.Proofs.Ytmjnlmmjfbpogaa.Pl
