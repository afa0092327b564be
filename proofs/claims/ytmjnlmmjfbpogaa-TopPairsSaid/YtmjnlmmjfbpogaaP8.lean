/- Plain: partners that are found by paths: as many as Match has pairs. -/
import Derived.Test.YtmjnlmmjfbpogaaP6
namespace Go.Proofs.Ytmjnlmmjfbpogaa.Pl

/-- how many are not seen -/
def Un (n : Nat) (S : Nat → Bool) : Nat := (List.range n).countP fun k => !S k
/-- k is seen, too -/
def see (S : Nat → Bool) (k : Nat) : Nat → Bool := fun q => decide (q = k) || S q
theorem see_true {S : Nat → Bool} {k q : Nat} : see S k q = true ↔ q = k ∨ S q = true := by unfold see; simp
theorem see_false {S : Nat → Bool} {k q : Nat} : see S k q = false ↔ q ≠ k ∧ S q = false := by unfold see; simp
theorem un_mono {n : Nat} {S S' : Nat → Bool} (h : ∀ q, q < n → S q = true → S' q = true) : Un n S' ≤ Un n S := by
  refine List.countP_mono_left fun q hq hs => ?_
  have hq := List.mem_range.1 hq
  cases e : S q with
  | false => rfl
  | true => rw [h q hq e] at hs; cases hs
theorem un_lt {n : Nat} {S : Nat → Bool} {k : Nat} (hk : k < n) (hs : S k = false) : Un n (see S k) < Un n S := by
  have key : ∀ (L : List Nat), L.countP (fun q => !see S k q) ≤ L.countP (fun q => !S q) ∧ (k ∈ L → L.countP (fun q => !see S k q) < L.countP (fun q => !S q)) := by
    intro L
    induction L with
    | nil => exact ⟨Nat.le_refl _, by simp⟩
    | cons a L ih =>
      obtain ⟨h1, h2⟩ := ih
      rw [List.countP_cons, List.countP_cons]
      by_cases e : a = k
      · have ea : see S k a = true := see_true.2 (.inl e)
        have eb : S a = false := by rw [e]; exact hs
        rw [ea, eb]
        simp
        omega
      · have ea : see S k a = S a := by unfold see; simp [e]
        rw [ea]
        refine ⟨by omega, fun hm => ?_⟩
        have := h2 ((List.mem_cons.1 hm).resolve_left (fun e' => e e'.symm))
        omega
  exact (key (List.range n)).2 (List.mem_range.2 hk)

/-- on what is not seen, P tells partners -/
structure PM (l : List Tm) (tol : Int) (P : Nat → Int) (S : Nat → Bool) : Prop where
  ed : ∀ k, k < l.length → S k = false → P k = -1 ∨ ∃ a : Nat, P k = a ∧ Ed l tol a k
  inj : ∀ k k', k < l.length → k' < l.length → S k = false → S k' = false → P k = P k' → 0 ≤ P k → k = k'
theorem PM.sub {l : List Tm} {tol : Int} {P : Nat → Int} {S S' : Nat → Bool} (h : PM l tol P S) (hs : ∀ k, k < l.length → S k = true → S' k = true) : PM l tol P S' := by
  have hf : ∀ k, k < l.length → S' k = false → S k = false := fun k hk e => by
    cases e2 : S k with
    | false => rfl
    | true => rw [hs k hk e2] at e; cases e
  exact ⟨fun k hk e => h.ed k hk (hf k hk e), fun k k' hk hk' e e' => h.inj k k' hk hk' (hf k hk e) (hf k' hk' e')⟩
/-- i has no partner among what is not seen -/
def Fre (l : List Tm) (P : Nat → Int) (S : Nat → Bool) (i : Nat) : Prop := ∀ k, k < l.length → S k = false → P k ≠ i
/-- i got a partner -/
structure Suc (l : List Tm) (tol : Int) (P : Nat → Int) (S : Nat → Bool) (i : Nat) (P' : Nat → Int) : Prop where
  old : ∀ k, k < l.length → S k = true → P' k = P k
  pm : PM l tol P' S
  left : ∀ a : Nat, (∃ k, k < l.length ∧ S k = false ∧ P' k = a) ↔ a = i ∨ ∃ k, k < l.length ∧ S k = false ∧ P k = a
/-- what was seen from i on: up to index m all that can be a pair with it -/
structure Fai (l : List Tm) (tol : Int) (P : Nat → Int) (S : Nat → Bool) (i m : Nat) (S' : Nat → Bool) : Prop where
  mono : ∀ k, k < l.length → S k = true → S' k = true
  mat : ∀ k, k < l.length → S k = false → S' k = true → 0 ≤ P k
  nb : ∀ b, b < m → Ed l tol i b → S' b = true
  cl : ∀ k, k < l.length → S k = false → S' k = true → ∀ a : Nat, P k = a → ∀ b, Ed l tol a b → S' b = true
theorem Fai.start (l : List Tm) (tol : Int) (P : Nat → Int) (S : Nat → Bool) (i : Nat) : Fai l tol P S i 0 S :=
  ⟨fun _ _ h => h, fun _ _ h1 h2 => (by rw [h1] at h2; cases h2), fun _ h => absurd h (Nat.not_lt_zero _), fun _ _ h1 h2 => (by rw [h1] at h2; cases h2)⟩
theorem Fai.next {l : List Tm} {tol : Int} {P : Nat → Int} {S Sc : Nat → Bool} {i k : Nat} (h : Fai l tol P S i k Sc) (hk : Ed l tol i k → Sc k = true) : Fai l tol P S i (k + 1) Sc :=
  ⟨h.mono, h.mat, fun b hb he => by
    rcases Nat.lt_succ_iff_lt_or_eq.1 hb with h' | rfl
    · exact h.nb b h' he
    · exact hk he, h.cl⟩
theorem Fai.deep {l : List Tm} {tol : Int} {P : Nat → Int} {S Sc S2 : Nat → Bool} {i k a : Nat} (h : Fai l tol P S i k Sc) (hkn : k < l.length) (hP : P k = a) (h2 : Fai l tol P (see Sc k) a l.length S2) : Fai l tol P S i (k + 1) S2 := by
  have up : ∀ q, q < l.length → Sc q = true → S2 q = true := fun q hq e => h2.mono q hq (see_true.2 (.inr e))
  have kk : S2 k = true := h2.mono k hkn (see_true.2 (.inl rfl))
  have cases' : ∀ q, q < l.length → S2 q = true → q = k ∨ Sc q = true ∨ see Sc k q = false := fun q _ _ => by
    cases e : see Sc k q with
    | false => exact .inr (.inr rfl)
    | true => rcases see_true.1 e with e' | e'
              · exact .inl e'
              · exact .inr (.inl e')
  refine ⟨fun q hq e => up q hq (h.mono q hq e), fun q hq e1 e2 => ?_, fun b hb he => ?_, fun q hq e1 e2 a' ha' b hb => ?_⟩
  · rcases cases' q hq e2 with rfl | e | e
    · omega
    · exact h.mat q hq e1 e
    · exact h2.mat q hq e e2
  · rcases Nat.lt_succ_iff_lt_or_eq.1 hb with h' | rfl
    · exact up b he.b (h.nb b h' he)
    · exact kk
  · rcases cases' q hq e2 with rfl | e | e
    · have : a' = a := by omega
      subst this
      exact h2.nb b hb.b hb
    · exact up b hb.b (h.cl q hq e1 e a' ha' b hb)
    · exact h2.cl q hq e e2 a' ha' b hb
theorem Suc.widen {l : List Tm} {tol : Int} {P P' : Nat → Int} {S Sc : Nat → Bool} {i m : Nat} (hp : PM l tol P S) (hf : Fre l P S i) (h : Fai l tol P S i m Sc) (hs : Suc l tol P Sc i P') : Suc l tol P S i P' := by
  have dn : ∀ k, k < l.length → Sc k = false → S k = false := fun k hk e => by
    cases e2 : S k with
    | false => rfl
    | true => rw [h.mono k hk e2] at e; cases e
  have mixed : ∀ k k', k < l.length → k' < l.length → S k = false → Sc k = true → Sc k' = false → P k = P' k' → 0 ≤ P k → False := fun k k' hk hk' e1 e2 e3 e4 e5 => by
    obtain ⟨a, ha⟩ : ∃ a : Nat, P k = a := ⟨(P k).toNat, by omega⟩
    rcases (hs.left a).1 ⟨k', hk', e3, by rw [← e4, ha]⟩ with rfl | ⟨k2, hk2, e6, e7⟩
    · exact hf k hk e1 ha
    · have := hp.inj k k2 hk hk2 e1 (dn k2 hk2 e6) (by rw [ha, e7]) e5
      rw [this] at e2
      rw [e2] at e6
      cases e6
  refine ⟨fun k hk e => hs.old k hk (h.mono k hk e), ⟨fun k hk e => ?_, fun k k' hk hk' e e' e1 e2 => ?_⟩, fun a => ⟨?_, ?_⟩⟩
  · cases e2 : Sc k with
    | false => exact hs.pm.ed k hk e2
    | true => rw [hs.old k hk e2]; exact hp.ed k hk e
  · cases c1 : Sc k with
    | false =>
      cases c2 : Sc k' with
      | false => exact hs.pm.inj k k' hk hk' c1 c2 e1 e2
      | true =>
        rw [hs.old k' hk' c2] at e1
        exact (mixed k' k hk' hk e' c2 c1 e1.symm (by rw [← e1]; exact e2)).elim
    | true =>
      rw [hs.old k hk c1] at e1 e2
      cases c2 : Sc k' with
      | false => exact (mixed k k' hk hk' e c1 c2 e1 e2).elim
      | true =>
        rw [hs.old k' hk' c2] at e1
        exact hp.inj k k' hk hk' e e' e1 e2
  · rintro ⟨k, hk, e1, e2⟩
    cases c1 : Sc k with
    | false =>
      rcases (hs.left a).1 ⟨k, hk, c1, e2⟩ with r | ⟨k2, h1, h2, h3⟩
      · exact .inl r
      · exact .inr ⟨k2, h1, dn k2 h1 h2, h3⟩
    | true => exact .inr ⟨k, hk, e1, by rw [← hs.old k hk c1]; exact e2⟩
  · rintro (rfl | ⟨k, hk, e1, e2⟩)
    · obtain ⟨k, h1, h2, h3⟩ := (hs.left a).2 (.inl rfl)
      exact ⟨k, h1, dn k h1 h2, h3⟩
    · cases c1 : Sc k with
      | false =>
        obtain ⟨k2, h1, h2, h3⟩ := (hs.left a).2 (.inr ⟨k, hk, c1, e2⟩)
        exact ⟨k2, h1, dn k2 h1 h2, h3⟩
      | true => exact ⟨k, hk, e1, by rw [hs.old k hk c1]; exact e2⟩
/-- P with i at k -/
def put (P : Nat → Int) (k : Nat) (i : Int) : Nat → Int := fun q => if q = k then i else P q
theorem put_same {P : Nat → Int} {k : Nat} {i : Int} : put P k i k = i := if_pos rfl
theorem put_other {P : Nat → Int} {k q : Nat} {i : Int} (h : q ≠ k) : put P k i q = P q := if_neg h
theorem suc_free {l : List Tm} {tol : Int} {P : Nat → Int} {S : Nat → Bool} {i k : Nat} (hp : PM l tol P S) (hf : Fre l P S i) (hs : S k = false) (he : Ed l tol i k) (h1 : P k = -1) : Suc l tol P S i (put P k i) := by
  refine ⟨fun q _ e => put_other (fun e' => by rw [e', hs] at e; cases e), ⟨fun q hq e => ?_, fun q q' hq hq' e e' e1 e2 => ?_⟩, fun a => ⟨?_, ?_⟩⟩
  · by_cases c : q = k
    · subst c; rw [put_same]; exact .inr ⟨i, rfl, he⟩
    · rw [put_other c]; exact hp.ed q hq e
  · by_cases c : q = k <;> by_cases c' : q' = k
    · rw [c, c']
    · subst c
      rw [put_same, put_other c'] at e1
      exact (hf q' hq' e' e1.symm).elim
    · subst c'
      rw [put_same, put_other c] at e1
      exact (hf q hq e e1).elim
    · rw [put_other c, put_other c'] at e1
      rw [put_other c] at e2
      exact hp.inj q q' hq hq' e e' e1 e2
  · rintro ⟨q, hq, e1, e2⟩
    by_cases c : q = k
    · subst c; rw [put_same] at e2; exact .inl (by omega)
    · rw [put_other c] at e2; exact .inr ⟨q, hq, e1, e2⟩
  · rintro (rfl | ⟨q, hq, e1, e2⟩)
    · exact ⟨k, he.b, hs, put_same⟩
    · have c : q ≠ k := fun c => by rw [c, h1] at e2; omega
      exact ⟨q, hq, e1, by rw [put_other c]; exact e2⟩
theorem suc_rec {l : List Tm} {tol : Int} {P P1 : Nat → Int} {S : Nat → Bool} {i k a : Nat} (hf : Fre l P S i) (hs : S k = false) (he : Ed l tol i k) (h1 : P k = a) (h2 : Suc l tol P (see S k) a P1) : Suc l tol P S i (put P1 k i) := by
  have sf : ∀ q, S q = false → q ≠ k → see S k q = false := fun q e c => see_false.2 ⟨c, e⟩
  have hne : i ≠ a := fun e => hf k he.b hs (by rw [h1, e])
  -- i is nobody's partner behind the search
  have hi : ∀ q, q < l.length → see S k q = false → P1 q ≠ i := fun q hq e e' => by
    rcases (h2.left i).1 ⟨q, hq, e, e'⟩ with r | ⟨q2, c1, c2, c3⟩
    · exact hne r
    · exact hf q2 c1 (see_false.1 c2).2 c3
  refine ⟨fun q hq e => ?_, ⟨fun q hq e => ?_, fun q q' hq hq' e e' e1 e2 => ?_⟩, fun b => ⟨?_, ?_⟩⟩
  · rw [put_other (fun e' => by rw [e', hs] at e; cases e)]
    exact h2.old q hq (see_true.2 (.inr e))
  · by_cases c : q = k
    · subst c; rw [put_same]; exact .inr ⟨i, rfl, he⟩
    · rw [put_other c]; exact h2.pm.ed q hq (sf q e c)
  · by_cases c : q = k <;> by_cases c' : q' = k
    · rw [c, c']
    · subst c
      rw [put_same, put_other c'] at e1
      exact (hi q' hq' (sf q' e' c') e1.symm).elim
    · subst c'
      rw [put_same, put_other c] at e1
      exact (hi q hq (sf q e c) e1).elim
    · rw [put_other c, put_other c'] at e1
      rw [put_other c] at e2
      exact h2.pm.inj q q' hq hq' (sf q e c) (sf q' e' c') e1 e2
  · rintro ⟨q, hq, e1, e2⟩
    by_cases c : q = k
    · subst c; rw [put_same] at e2; exact .inl (by omega)
    · rw [put_other c] at e2
      rcases (h2.left b).1 ⟨q, hq, sf q e1 c, e2⟩ with rfl | ⟨q2, c1, c2, c3⟩
      · exact .inr ⟨k, he.b, hs, h1⟩
      · exact .inr ⟨q2, c1, (see_false.1 c2).2, c3⟩
  · rintro (rfl | ⟨q, hq, e1, e2⟩)
    · exact ⟨k, he.b, hs, put_same⟩
    · by_cases c : q = k
      · subst c
        have : b = a := by omega
        subst this
        obtain ⟨q2, c1, c2, c3⟩ := (h2.left b).2 (.inl rfl)
        exact ⟨q2, c1, (see_false.1 c2).2, by rw [put_other (see_false.1 c2).1]; exact c3⟩
      · obtain ⟨q2, c1, c2, c3⟩ := (h2.left b).2 (.inr ⟨q, hq, sf q e1 c, e2⟩)
        exact ⟨q2, c1, (see_false.1 c2).2, by rw [put_other (see_false.1 c2).1]; exact c3⟩

def noS : Nat → Bool := fun _ => false
/-- the indexes that have a partner; the pairs that partners are -/
def has (l : List Tm) (P : Nat → Int) : List Nat := (List.range l.length).filter fun k => decide (0 ≤ P k)
def prs (l : List Tm) (P : Nat → Int) : List (Nat × Nat) := (has l P).map fun k => ((P k).toNat, k)
theorem has_mem {l : List Tm} {P : Nat → Int} {k : Nat} : k ∈ has l P ↔ k < l.length ∧ 0 ≤ P k := by unfold has; rw [List.mem_filter, List.mem_range, decide_eq_true_iff]
theorem has_nodup (l : List Tm) (P : Nat → Int) : (has l P).Nodup := List.Nodup.sublist List.filter_sublist List.nodup_range
theorem prs_mch {l : List Tm} {tol : Int} {P : Nat → Int} (h : PM l tol P noS) : Mch (Ed l tol) (prs l P) := by
  refine ⟨fun e he => ?_, ?_, ?_⟩
  · obtain ⟨k, hk, rfl⟩ := List.mem_map.1 he
    obtain ⟨h1, h2⟩ := has_mem.1 hk
    rcases h.ed k h1 rfl with e | ⟨a, e, ed⟩
    · omega
    · show Ed l tol (P k).toNat k
      rw [e, Int.toNat_natCast]; exact ed
  · unfold prs
    rw [List.map_map, List.nodup_iff_pairwise_ne, List.pairwise_map]
    refine (List.nodup_iff_pairwise_ne.1 (has_nodup l P)).imp_of_mem fun {a b} ha hb hab e => hab ?_
    obtain ⟨a1, a2⟩ := has_mem.1 ha
    obtain ⟨b1, b2⟩ := has_mem.1 hb
    simp at e
    exact h.inj a b a1 b1 rfl rfl (by omega) a2
  · unfold prs
    rw [List.map_map]
    have : (has l P).map ((fun e : Nat × Nat => e.2) ∘ fun k => ((P k).toNat, k)) = has l P := by
      rw [show ((fun e : Nat × Nat => e.2) ∘ fun k => ((P k).toNat, k)) = id from rfl, List.map_id]
    rw [this]
    exact has_nodup l P
/-- the state behind the first i temples: c partners, as many as there can be -/
structure Mo (l : List Tm) (tol : Int) (i c : Nat) (P : Nat → Int) : Prop where
  pm : PM l tol P noS
  lt : ∀ k, k < l.length → ∀ a : Nat, P k = a → a < i
  cnt : (has l P).length = c
  max : ∀ M, Mch (fun a b => Ed l tol a b ∧ a < i) M → M.length ≤ c
theorem Mo.start (l : List Tm) (tol : Int) : Mo l tol 0 0 (fun _ => -1) :=
  ⟨⟨fun _ _ _ => .inl rfl, fun _ _ _ _ _ _ _ h => absurd h (by decide)⟩, fun _ _ a h => by omega, by unfold has; simp, fun M hM => by
    match M with
    | [] => simp
    | e :: M => exact absurd (hM.rel e (by simp)).2 (Nat.not_lt_zero _)⟩
theorem Mo.skip {l : List Tm} {tol : Int} {i c : Nat} {P : Nat → Int} (h : Mo l tol i c P) (hs : (at' l i).side ≠ 1) : Mo l tol (i + 1) c P :=
  ⟨h.pm, fun k hk a e => Nat.lt_succ_of_lt (h.lt k hk a e), h.cnt, fun M hM => h.max M (hM.imp fun e _ hr => ⟨hr.1, by
    rcases Nat.lt_succ_iff_lt_or_eq.1 hr.2 with k | k
    · exact k
    · exact absurd (k ▸ hr.1.s1) hs⟩)⟩
theorem Mo.fre {l : List Tm} {tol : Int} {i c : Nat} {P : Nat → Int} (h : Mo l tol i c P) : Fre l P noS i := fun k hk _ e => Nat.lt_irrefl _ (h.lt k hk i e)
theorem Mo.suc {l : List Tm} {tol : Int} {i c : Nat} {P P' : Nat → Int} (h : Mo l tol i c P) (hs : Suc l tol P noS i P') : Mo l tol (i + 1) (c + 1) P' := by
  refine ⟨hs.pm, fun k hk a e => ?_, ?_, fun M hM => ?_⟩
  · rcases (hs.left a).1 ⟨k, hk, rfl, e⟩ with r | ⟨k2, h1, _, h3⟩
    · omega
    · exact Nat.lt_succ_of_lt (h.lt k2 h1 a h3)
  · -- the lefts behind are those ahead, and i
    have n1 := (prs_mch h.pm).n1
    have n2 := (prs_mch hs.pm).n1
    have mem : ∀ (Q : Nat → Int) (a : Nat), PM l tol Q noS → (a ∈ (prs l Q).map (·.1) ↔ ∃ k, k < l.length ∧ noS k = false ∧ Q k = a) := fun Q a hQ => by
      constructor
      · intro hm
        obtain ⟨e, he, rfl⟩ := List.mem_map.1 hm
        obtain ⟨k, hk, rfl⟩ := List.mem_map.1 he
        obtain ⟨h1, h2⟩ := has_mem.1 hk
        exact ⟨k, h1, rfl, by simp; omega⟩
      · rintro ⟨k, hk, _, e⟩
        exact List.mem_map.2 ⟨((Q k).toNat, k), List.mem_map.2 ⟨k, has_mem.2 ⟨hk, by omega⟩, rfl⟩, by simp; omega⟩
    have hni : i ∉ (prs l P).map (·.1) := fun hm => by
      obtain ⟨k, hk, _, e⟩ := (mem P i h.pm).1 hm
      exact h.fre k hk rfl e
    have l1 : ((prs l P).map (·.1)).length = c := by rw [List.length_map]; unfold prs; rw [List.length_map]; exact h.cnt
    have l2 : ((prs l P').map (·.1)).length = (has l P').length := by rw [List.length_map]; unfold prs; rw [List.length_map]
    have le1 := List.Nodup.length_le_of_subset (l₁ := i :: (prs l P).map (·.1)) (l₂ := (prs l P').map (·.1)) (List.nodup_cons.2 ⟨hni, n1⟩) (fun a ha => by
      rw [mem P' a hs.pm]
      refine (hs.left a).2 ?_
      rcases List.mem_cons.1 ha with r | r
      · exact .inl r
      · exact .inr ((mem P a h.pm).1 r))
    have le2 := List.Nodup.length_le_of_subset (l₁ := (prs l P').map (·.1)) (l₂ := i :: (prs l P).map (·.1)) n2 (fun a ha => by
      rcases (hs.left a).1 ((mem P' a hs.pm).1 ha) with r | r
      · exact List.mem_cons.2 (.inl r)
      · exact List.mem_cons.2 (.inr ((mem P a h.pm).2 r)))
    rw [List.length_cons] at le1 le2
    omega
  · by_cases h1 : ∃ b, (i, b) ∈ M
    · obtain ⟨b, hb⟩ := h1
      obtain ⟨M1, pm, len⟩ := front hb
      obtain ⟨hM1, a1, _⟩ := (hM.perm pm).tail
      have := h.max M1 (hM1.imp fun e he hr => ⟨hr.1, by have := a1 e he; dsimp only at this; have := hr.2; omega⟩)
      omega
    · have := h.max M (hM.imp fun e he hr => ⟨hr.1, by
        have := hr.2
        have : e.1 ≠ i := fun e' => h1 ⟨e.2, by rw [← e']; exact he⟩
        omega⟩)
      omega
theorem Mo.fai {l : List Tm} {tol : Int} {i c : Nat} {P : Nat → Int} {S : Nat → Bool} (h : Mo l tol i c P) (hs : Fai l tol P noS i l.length S) : Mo l tol (i + 1) c P := by
  refine ⟨h.pm, fun k hk a e => Nat.lt_succ_of_lt (h.lt k hk a e), h.cnt, fun M hM => ?_⟩
  by_cases h1 : ∃ b, (i, b) ∈ M
  · -- what was seen, with its partners; the others of M
    let N := (has l P).filter fun k => S k
    have Nm : ∀ k, k ∈ N ↔ (k < l.length ∧ 0 ≤ P k) ∧ S k = true := fun k => by rw [List.mem_filter, has_mem]
    have Nn : N.Nodup := List.Nodup.sublist List.filter_sublist (has_nodup l P)
    have hA := hM.filter (fun e => S e.2)
    have hB := hM.filter (fun e => !S e.2)
    have hAl : (M.filter fun e => S e.2).length ≤ N.length := by
      have := List.Nodup.length_le_of_subset (l₁ := (M.filter fun e => S e.2).map (·.2)) (l₂ := N) hA.n2 (fun b hb => by
        obtain ⟨e, he, rfl⟩ := List.mem_map.1 hb
        have hr := hA.rel e he
        have hS := (List.mem_filter.1 he).2
        exact (Nm e.2).2 ⟨⟨hr.1.b, hs.mat e.2 hr.1.b rfl hS⟩, hS⟩)
      rwa [List.length_map] at this
    have eN : ∀ k, k ∈ N → ∃ a : Nat, P k = a ∧ Ed l tol a k ∧ a < i := fun k hk => by
      obtain ⟨⟨k1, k2⟩, _⟩ := (Nm k).1 hk
      rcases h.pm.ed k k1 rfl with e | ⟨a, e, ed⟩
      · omega
      · exact ⟨a, e, ed, h.lt k k1 a e⟩
    have hX : Mch (fun a b => Ed l tol a b ∧ a < i) (M.filter (fun e => !S e.2) ++ N.map fun k => ((P k).toNat, k)) := by
      refine ⟨fun e he => ?_, ?_, ?_⟩
      · rcases List.mem_append.1 he with r | r
        · have hr := hB.rel e r
          have hS := (List.mem_filter.1 r).2
          refine ⟨hr.1, ?_⟩
          have : e.1 ≠ i := fun e' => by
            have := hs.nb e.2 hr.1.b (e' ▸ hr.1)
            rw [this] at hS; cases hS
          have := hr.2
          omega
        · obtain ⟨k, hk, rfl⟩ := List.mem_map.1 r
          obtain ⟨a, e1, e2, e3⟩ := eN k hk
          show Ed l tol (P k).toNat k ∧ (P k).toNat < i
          rw [e1, Int.toNat_natCast]
          exact ⟨e2, e3⟩
      · rw [List.map_append, List.nodup_append]
        refine ⟨hB.n1, ?_, fun a ha b hb e => ?_⟩
        · rw [List.map_map, List.nodup_iff_pairwise_ne, List.pairwise_map]
          refine (List.nodup_iff_pairwise_ne.1 Nn).imp_of_mem fun {a b} ha hb hab e => hab ?_
          obtain ⟨⟨a1, a2⟩, _⟩ := (Nm a).1 ha
          obtain ⟨⟨b1, b2⟩, _⟩ := (Nm b).1 hb
          simp at e
          exact h.pm.inj a b a1 b1 rfl rfl (by omega) a2
        · obtain ⟨x, hx, rfl⟩ := List.mem_map.1 ha
          obtain ⟨y, hy, rfl⟩ := List.mem_map.1 hb
          obtain ⟨k, hk, rfl⟩ := List.mem_map.1 hy
          have hr := hB.rel x hx
          have hS := (List.mem_filter.1 hx).2
          obtain ⟨⟨k1, _⟩, k3⟩ := (Nm k).1 hk
          obtain ⟨a, e1, _, _⟩ := eN k hk
          simp at e
          have := hs.cl k k1 rfl k3 a e1 x.2 (by have : x.1 = a := by omega
                                                 rw [← this]; exact hr.1)
          rw [this] at hS; cases hS
      · rw [List.map_append, List.nodup_append]
        refine ⟨hB.n2, ?_, fun a ha b hb e => ?_⟩
        · rw [List.map_map, show ((fun e : Nat × Nat => e.2) ∘ fun k => ((P k).toNat, k)) = id from rfl, List.map_id]
          exact Nn
        · obtain ⟨x, hx, rfl⟩ := List.mem_map.1 ha
          obtain ⟨y, hy, rfl⟩ := List.mem_map.1 hb
          obtain ⟨k, hk, rfl⟩ := List.mem_map.1 hy
          have hS := (List.mem_filter.1 hx).2
          have := ((Nm k).1 hk).2
          simp only at e
          rw [e, this] at hS; cases hS
    have hXl := h.max _ hX
    rw [List.length_append, List.length_map] at hXl
    have hsum : M.length = (M.filter fun e => S e.2).length + (M.filter fun e => !S e.2).length := by
      rw [← List.countP_eq_length_filter, ← List.countP_eq_length_filter]
      exact List.length_eq_countP_add_countP (fun e : Nat × Nat => S e.2) |>.trans (by congr 1; apply List.countP_congr; intro x _; simp)
    omega
  · exact h.max M (hM.imp fun e he hr => ⟨hr.1, by
      have := hr.2
      have : e.1 ≠ i := fun e' => h1 ⟨e.2, by rw [← e']; exact he⟩
      omega⟩)
theorem Mo.fin {l : List Tm} (ho : Ok l) {tol : Int} {c : Nat} {P : Nat → Int} (h : Mo l tol l.length c P) : c = (mt l tol).length := by
  have h1 := mt_max ho (prs_mch h.pm)
  have h2 := h.max _ ((mt_mch l tol).imp fun _ _ hr => ⟨hr, hr.a⟩)
  have h3 : (prs l P).length = c := by unfold prs; rw [List.length_map]; exact h.cnt
  omega
end Go.Proofs.Ytmjnlmmjfbpogaa.Pl
