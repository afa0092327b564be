/- What alternating paths reach, and that the guard has one temple of each pair. -/
import Derived.Test.YtmjnlmmjfbpogaaP12
namespace Go.Proofs.Ytmjnlmmjfbpogaa.Pl

/-- a left temple can be free in a pairing as large as mt's, which is mt outside of what was reached -/
def Fp (l : List Tm) (tol : Int) (S : Nat → Bool) (a : Nat) : Prop :=
  ∃ M, Mch (Ed l tol) M ∧ M.length = (mt l tol).length ∧ (∀ e, e ∈ M → e.1 ≠ a) ∧ ∀ k, S k = false → ∀ b, (b, k) ∈ M ↔ (b, k) ∈ mt l tol
/-- what is reached is followed -/
def Dn (l : List Tm) (tol : Int) (S : Nat → Bool) (x : Nat) : Prop :=
  ((at' l x).side = 1 → ∀ k, Ed l tol x k → S k = true) ∧ ((at' l x).side = 2 → ∃ b, (b, x) ∈ mt l tol ∧ S b = true)
/-- what walk leaves -/
structure Wk (l : List Tm) (tol : Int) (S : Nat → Bool) (a : Nat) (S' : Nat → Bool) : Prop where
  mono : ∀ x, S x = true → S' x = true
  self : S' a = true
  new : ∀ x, x < l.length → S' x = true → S x = true ∨ Dn l tol S' x
/-- the loop of walk -/
structure Wl (l : List Tm) (tol : Int) (S : Nat → Bool) (a k : Nat) (S' : Nat → Bool) : Prop where
  mono : ∀ x, S x = true → S' x = true
  self : S' a = true
  new : ∀ x, x < l.length → S' x = true → S x = true ∨ x = a ∨ Dn l tol S' x
  old : ∀ j, j < k → Ed l tol a j → S' j = true
section
variable {l : List Tm} {tol : Int} {S S' S2 : Nat → Bool} {a b k x : Nat}
theorem Fp.mono (h : Fp l tol S a) (hm : ∀ x, S x = true → S' x = true) : Fp l tol S' a := by
  obtain ⟨M, h1, h2, h3, h4⟩ := h
  refine ⟨M, h1, h2, h3, fun k hk => h4 k ?_⟩
  cases e : S k with
  | false => rfl
  | true => rw [hm k e] at hk; cases hk
theorem Fp.root (h : ∀ e, e ∈ mt l tol → e.1 ≠ a) : Fp l tol S a := ⟨mt l tol, mt_mch l tol, rfl, h, fun _ _ _ => Iff.rfl⟩
/-- a right one that is reached from it is in a pair -/
theorem Fp.hit (h : Fp l tol S a) (ho : Ok l) (he : Ed l tol a k) (hk : S k = false) : ∃ b, (b, k) ∈ mt l tol := by
  obtain ⟨M, h1, h2, h3, h4⟩ := h
  apply Classical.byContradiction
  intro hn
  have h5 : ∀ x, x ∈ M → x.2 ≠ k := fun x hx e => hn ⟨x.1, (h4 k hk x.1).1 (by rw [← e]; exact hx)⟩
  have := mt_max ho (Mch.cons (e := (a, k)) h1 he h3 h5)
  simp only [List.length_cons] at this
  omega
/-- and its partner can be free too -/
theorem Fp.step (h : Fp l tol S a) (he : Ed l tol a k) (hk : S k = false) (hb : (b, k) ∈ mt l tol) : Fp l tol (see S k) b := by
  obtain ⟨M, h1, h2, h3, h4⟩ := h
  have hbM := (h4 k hk b).2 hb
  obtain ⟨M', hp, hl⟩ := front hbM
  obtain ⟨t1, t2, t3⟩ := (h1.perm hp).tail
  have hsub : ∀ x, x ∈ M' → x ∈ M := fun x hx => hp.mem_iff.2 (List.mem_cons_of_mem _ hx)
  have hab : b ≠ a := h3 _ hbM
  refine ⟨(a, k) :: M', Mch.cons t1 he (fun x hx => h3 x (hsub x hx)) t3, by simp only [List.length_cons]; omega, ?_, ?_⟩
  · intro e hm
    rcases List.mem_cons.1 hm with rfl | hm
    · exact fun e => hab e.symm
    · exact t2 e hm
  · intro j hj c
    obtain ⟨hjk, hjS⟩ := see_false.1 hj
    rw [← h4 j hjS c, hp.mem_iff, List.mem_cons, List.mem_cons]
    constructor
    · rintro (e | e)
      · cases e; exact absurd rfl hjk
      · exact .inr e
    · rintro (e | e)
      · cases e; exact absurd rfl hjk
      · exact .inr e
theorem Dn.mono (h : Dn l tol S x) (hm : ∀ x, S x = true → S' x = true) : Dn l tol S' x :=
  ⟨fun hs k hk => hm k (h.1 hs k hk), fun hs => by obtain ⟨b, h1, h2⟩ := h.2 hs; exact ⟨b, h1, hm b h2⟩⟩
theorem Wl.start : Wl l tol S a 0 (see S a) :=
  ⟨fun _ h => see_true.2 (.inr h), see_true.2 (.inl rfl), fun _ _ h => (see_true.1 h).elim (fun e => .inr (.inl e)) .inl, fun _ h => absurd h (Nat.not_lt_zero _)⟩
theorem Wl.skip (h : Wl l tol S a k S') (hk : Ed l tol a k → S' k = true) : Wl l tol S a (k + 1) S' :=
  ⟨h.mono, h.self, h.new, fun j hj he => by
    by_cases e : j = k
    · subst e; exact hk he
    · exact h.old j (by omega) he⟩
theorem Wl.deep (h : Wl l tol S a k S') (hb : (b, k) ∈ mt l tol) (hs2 : (at' l k).side = 2) (hw : Wk l tol (see S' k) b S2) : Wl l tol S a (k + 1) S2 := by
  have hm : ∀ x, S' x = true → S2 x = true := fun x hx => hw.mono x (see_true.2 (.inr hx))
  have hkk : S2 k = true := hw.mono k (see_true.2 (.inl rfl))
  refine ⟨fun x hx => hm x (h.mono x hx), hm a h.self, fun x hx hxs => ?_, fun j hj he => ?_⟩
  · rcases hw.new x hx hxs with e | e
    · rcases see_true.1 e with rfl | e
      · refine .inr (.inr ⟨fun hs => by omega, fun _ => ⟨b, hb, hw.self⟩⟩)
      · rcases h.new x hx e with e | e | e
        · exact .inl e
        · exact .inr (.inl e)
        · exact .inr (.inr (e.mono hm))
    · exact .inr (.inr e)
  · by_cases e : j = k
    · subst e; exact hkk
    · exact hm j (h.old j (by omega) he)
theorem Wl.fin (h : Wl l tol S a l.length S') (hs : (at' l a).side = 1) : Wk l tol S a S' :=
  ⟨h.mono, h.self, fun x hx hxs => by
    rcases h.new x hx hxs with e | rfl | e
    · exact .inl e
    · exact .inr ⟨fun _ k hk => h.old k hk.b hk, fun h2 => by omega⟩
    · exact .inr e⟩
/-- all roots below i are walked -/
structure Rt (l : List Tm) (tol : Int) (i : Nat) (S : Nat → Bool) : Prop where
  dn : ∀ x, x < l.length → S x = true → Dn l tol S x
  rt : ∀ x, x < i → x < l.length → (at' l x).side = 1 → (∀ e, e ∈ mt l tol → e.1 ≠ x) → S x = true
theorem Rt.start : Rt l tol 0 noS := ⟨fun _ _ h => (by cases h), fun _ h => absurd h (Nat.not_lt_zero _)⟩
theorem Rt.skip {i : Nat} (h : Rt l tol i S) (hn : ¬ ((at' l i).side = 1 ∧ ∀ e, e ∈ mt l tol → e.1 ≠ i)) : Rt l tol (i + 1) S :=
  ⟨h.dn, fun x hx h1 h2 h3 => by
    by_cases e : x = i
    · subst e; exact absurd ⟨h2, h3⟩ hn
    · exact h.rt x (by omega) h1 h2 h3⟩
theorem Rt.walk {i : Nat} (h : Rt l tol i S) (hw : Wk l tol S i S') : Rt l tol (i + 1) S' :=
  ⟨fun x hx hs => (hw.new x hx hs).elim (fun e => (h.dn x hx e).mono hw.mono) id, fun x hx h1 h2 h3 => by
    by_cases e : x = i
    · subst e; exact hw.self
    · exact hw.mono x (h.rt x (by omega) h1 h2 h3)⟩
end
/-- the guard: the left ones that are not reached, the right ones that are -/
def gu (l : List Tm) (S : Nat → Bool) : List Nat := (List.range l.length).filter fun i => S i == decide ((at' l i).side = 2)
section
variable {l : List Tm} {tol : Int} {S : Nat → Bool}
theorem gu_mem {i : Nat} : i ∈ gu l S ↔ i < l.length ∧ (S i = true ↔ (at' l i).side = 2) := by
  unfold gu
  rw [List.mem_filter, List.mem_range, beq_iff_eq]
  constructor
  · rintro ⟨h1, h2⟩; exact ⟨h1, by rw [h2, decide_eq_true_iff]⟩
  · rintro ⟨h1, h2⟩; exact ⟨h1, by rw [Bool.eq_iff_iff, decide_eq_true_iff]; exact h2⟩
/-- the one of a pair that is in the guard -/
def pk (S : Nat → Bool) (e : Nat × Nat) : Nat := if S e.2 = true then e.2 else e.1
theorem gu_cover (h : Rt l tol l.length S) {a b : Nat} (he : Ed l tol a b) : a ∈ gu l S ∨ b ∈ gu l S := by
  by_cases hs : S a = true
  · exact .inr (gu_mem.2 ⟨he.b, fun _ => he.s2, fun _ => (h.dn a he.a hs).1 he.s1 b he⟩)
  · exact .inl (gu_mem.2 ⟨he.a, fun h => absurd h hs, fun h => by have := he.s1; omega⟩)
theorem uniq2 : ∀ {M : List (Nat × Nat)} {x y : Nat × Nat}, (M.map (·.2)).Nodup → x ∈ M → y ∈ M → x.2 = y.2 → x = y
  | [], _, _, _, hx, _, _ => by cases hx
  | e :: M, x, y, hn, hx, hy, h => by
    rw [List.map_cons, List.nodup_cons] at hn
    rcases List.mem_cons.1 hx with rfl | hx'
    · rcases List.mem_cons.1 hy with rfl | hy'
      · rfl
      · exact absurd (List.mem_map.2 ⟨y, hy', h.symm⟩) hn.1
    · rcases List.mem_cons.1 hy with rfl | hy'
      · exact absurd (List.mem_map.2 ⟨x, hx', h⟩) hn.1
      · exact uniq2 hn.2 hx' hy' h
theorem gu_nodup : (gu l S).Nodup := List.nodup_range.filter _
theorem pk_nodup : ((mt l tol).map (pk S)).Nodup := by
  have hM := mt_mch l tol
  have h1 := List.pairwise_map.1 hM.n1
  have h2 := List.pairwise_map.1 hM.n2
  refine List.pairwise_map.2 ((h1.and h2).imp_of_mem fun {x y} hx hy h => ?_)
  have ex := hM.rel x hx
  have ey := hM.rel y hy
  unfold pk
  have n1 : x.2 ≠ y.1 := fun e => by have := ex.s2; have := ey.s1; rw [e] at *; omega
  have n2 : x.1 ≠ y.2 := fun e => by have := ex.s1; have := ey.s2; rw [e] at *; omega
  split <;> split
  · exact h.2
  · exact n1
  · exact n2
  · exact h.1
theorem gu_len (ho : Ok l) (h : Rt l tol l.length S) : (gu l S).length = (mt l tol).length := by
  have hM := mt_mch l tol
  have hpart : ∀ e, e ∈ mt l tol → S e.2 = true → S e.1 = true := fun e he hs => by
    have hE := hM.rel e he
    obtain ⟨b, h1, h2⟩ := (h.dn e.2 hE.b hs).2 hE.s2
    have := uniq2 hM.n2 h1 he rfl
    rw [← this]; exact h2
  apply Nat.le_antisymm
  · have := List.Nodup.length_le_of_subset (gu_nodup (l := l) (S := S)) (l₂ := (mt l tol).map (pk S)) (fun i hi => by
      obtain ⟨h1, h2⟩ := gu_mem.1 hi
      by_cases hs : S i = true
      · obtain ⟨b, hb, _⟩ := (h.dn i h1 hs).2 (h2.1 hs)
        exact List.mem_map.2 ⟨(b, i), hb, by unfold pk; rw [if_pos hs]⟩
      · have hv := (ho.vt i h1).s
        have hs1 : (at' l i).side = 1 := by
          rcases hv with e | e
          · exact e
          · exact absurd (h2.2 e) hs
        apply Classical.byContradiction
        intro hn
        refine hs (h.rt i h1 h1 hs1 fun e he hei => hn (List.mem_map.2 ⟨e, he, ?_⟩))
        unfold pk
        rw [if_neg (fun h3 => hs (by rw [← hei]; exact hpart e he h3))]
        exact hei)
    rwa [List.length_map] at this
  · have := List.Nodup.length_le_of_subset (pk_nodup (l := l) (tol := tol) (S := S)) (l₂ := gu l S) (fun i hi => by
      obtain ⟨e, he, rfl⟩ := List.mem_map.1 hi
      have hE := hM.rel e he
      unfold pk
      by_cases hs : S e.2 = true
      · rw [if_pos hs]
        exact gu_mem.2 ⟨hE.b, fun _ => hE.s2, fun _ => hs⟩
      · rw [if_neg hs]
        exact gu_mem.2 ⟨hE.a, fun h3 => absurd ((h.dn e.1 hE.a h3).1 hE.s1 e.2 hE) hs, fun h3 => by have := hE.s1; omega⟩)
    rwa [List.length_map] at this
end
end Go.Proofs.Ytmjnlmmjfbpogaa.Pl
