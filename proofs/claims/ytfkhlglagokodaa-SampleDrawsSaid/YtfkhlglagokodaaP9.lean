/- Plain: which pieces are drawn. -/
import Derived.Test.YtfkhlglagokodaaP3
namespace Go.Proofs.Ytfkhlglagokodaa.Pl

/-- the generator -/
def rng (x : Nat) : Nat := x * 16807 % 2147483647
/-- those that are left, those that were taken, in ascending order -/
def un (L : Nat) (t : Nat → Bool) : List Nat := (List.range L).filter fun i => !t i
def tk (L : Nat) (t : Nat → Bool) : List Nat := (List.range L).filter fun i => t i
def see (t : Nat → Bool) (p : Nat) : Nat → Bool := fun q => if q = p then true else t q
/-- the generator's number, which were taken, the list of them -/
def rn (L seed : Nat) : Nat → Nat × (Nat → Bool) × List Nat
  | 0 => (seed, (fun _ => false), [])
  | k + 1 => (rng (rn L seed k).1, see (rn L seed k).2.1 ((un L (rn L seed k).2.1).getD (rng (rn L seed k).1 % (un L (rn L seed k).2.1).length) 0), (rn L seed k).2.2 ++ [(un L (rn L seed k).2.1).getD (rng (rn L seed k).1 % (un L (rn L seed k).2.1).length) 0])
theorem rng_lt (x : Nat) : rng x < 2147483647 := Nat.mod_lt _ (by decide)
theorem nodup_filter {l : List Nat} (h : l.Nodup) (f : Nat → Bool) : (l.filter f).Nodup := List.Pairwise.filter f h
theorem un_nodup (L : Nat) (t : Nat → Bool) : (un L t).Nodup := nodup_filter List.nodup_range _
theorem erase_nodup : ∀ {l : List Nat} {i : Nat} (hi : i < l.length), l.Nodup → l.filter (fun a => decide (a ≠ l[i])) = l.eraseIdx i := by
  intro l
  induction l with
  | nil => intro i hi; simp at hi
  | cons a as ih =>
    intro i hi hn
    rw [List.nodup_cons] at hn
    cases i with
    | zero =>
      show (a :: as).filter (fun b => decide (b ≠ a)) = as
      rw [List.filter_cons_of_neg (by simp)]
      refine List.filter_eq_self.2 fun b hb => ?_
      simp only [decide_eq_true_iff]
      exact fun e => hn.1 (e ▸ hb)
    | succ i =>
      have hi' : i < as.length := by simpa using hi
      show (a :: as).filter (fun b => decide (b ≠ as[i])) = a :: as.eraseIdx i
      rw [List.filter_cons_of_pos (by
        simp only [decide_eq_true_iff]
        exact fun e => hn.1 (e ▸ List.getElem_mem hi')), ih hi' hn.2]
theorem un_see {L : Nat} {t : Nat → Bool} {i : Nat} (hi : i < (un L t).length) : un L (see t (un L t)[i]) = (un L t).eraseIdx i := by
  rw [← erase_nodup hi (un_nodup L t)]
  unfold un
  rw [List.filter_filter]
  refine List.filter_congr fun a _ => ?_
  unfold see
  by_cases e : a = (List.filter (fun i => !t i) (List.range L))[i]
  · simp [e]
  · simp [e]
theorem rn_len (L seed : Nat) : ∀ k, k ≤ L → (un L (rn L seed k).2.1).length = L - k := by
  intro k
  induction k with
  | zero => intro _; show ((List.range L).filter fun _ => true).length = L - 0; rw [List.filter_eq_self.2 (fun _ _ => rfl), List.length_range]; rfl
  | succ k ih =>
    intro hk
    have h := ih (by omega)
    have hi : rng (rn L seed k).1 % (un L (rn L seed k).2.1).length < (un L (rn L seed k).2.1).length := Nat.mod_lt _ (by omega)
    show (un L (see (rn L seed k).2.1 ((un L (rn L seed k).2.1).getD _ 0))).length = _
    rw [List.getD_eq_getElem?_getD, List.getElem?_eq_getElem hi, Option.getD_some, un_see hi, List.length_eraseIdx_of_lt hi, h]
    omega
/-- one drawing more -/
theorem rn_succ {L seed k : Nat} (hk : k < L) : ∃ (hi : rng (rn L seed k).1 % (L - k) < (un L (rn L seed k).2.1).length),
    (rn L seed (k + 1)).1 = rng (rn L seed k).1 ∧ (rn L seed (k + 1)).2.1 = see (rn L seed k).2.1 (un L (rn L seed k).2.1)[rng (rn L seed k).1 % (L - k)] ∧
    (rn L seed (k + 1)).2.2 = (rn L seed k).2.2 ++ [(un L (rn L seed k).2.1)[rng (rn L seed k).1 % (L - k)]] ∧
    un L (rn L seed (k + 1)).2.1 = (un L (rn L seed k).2.1).eraseIdx (rng (rn L seed k).1 % (L - k)) := by
  have h := rn_len L seed k (by omega)
  have hi : rng (rn L seed k).1 % (L - k) < (un L (rn L seed k).2.1).length := by rw [h]; exact Nat.mod_lt _ (by omega)
  have e : (un L (rn L seed k).2.1).getD (rng (rn L seed k).1 % (un L (rn L seed k).2.1).length) 0 = (un L (rn L seed k).2.1)[rng (rn L seed k).1 % (L - k)] := by
    rw [List.getD_eq_getElem?_getD]
    simp only [h]
    rw [List.getElem?_eq_getElem hi, Option.getD_some]
  refine ⟨hi, rfl, ?_, ?_, ?_⟩
  · show see _ ((un L (rn L seed k).2.1).getD _ 0) = _; rw [e]
  · show _ ++ [(un L (rn L seed k).2.1).getD _ 0] = _; rw [e]
  · show un L (see _ ((un L (rn L seed k).2.1).getD _ 0)) = _; rw [e, un_see hi]
/-- one drawing more, as the program counts -/
theorem rn_step {L seed k : Nat} (hk : k < L) : ∃ X Y j p : Nat, ∃ (t t' : Nat → Bool) (d d' U U' : List Nat), rn L seed k = (X, t, d) ∧ rn L seed (k + 1) = (Y, t', d') ∧ un L t = U ∧ un L t' = U' ∧
    Y = X * 16807 % 2147483647 ∧ j = Y % (L - k) ∧ j < L - k ∧ U.length = L - k ∧ U[j]? = some p ∧ t' = see t p ∧ d' = d ++ [p] ∧ U' = U.eraseIdx j := by
  obtain ⟨hi, h1, h2, h3, h4⟩ := rn_succ (seed := seed) hk
  have hl := rn_len L seed k (by omega)
  refine ⟨_, _, _, _, _, _, _, _, _, _, rfl, rfl, rfl, rfl, h1, rfl, Nat.mod_lt _ (by omega), hl, List.getElem?_eq_getElem hi, h2, h3, h4⟩
theorem rn_mem (L seed : Nat) : ∀ k, k ≤ L → (rn L seed k).2.2.Nodup ∧ (rn L seed k).2.2.length = k ∧ ∀ a, a ∈ (rn L seed k).2.2 ↔ a < L ∧ (rn L seed k).2.1 a = true := by
  intro k
  induction k with
  | zero => intro _; exact ⟨List.nodup_nil, rfl, fun a => by constructor; (intro h; cases h); (rintro ⟨_, h⟩; cases h)⟩
  | succ k ih =>
    intro hk
    obtain ⟨h1, h0, h2⟩ := ih (by omega)
    obtain ⟨hi, _, e2, e3, _⟩ := rn_succ (seed := seed) (show k < L by omega)
    rw [e2, e3]
    have hm := List.getElem_mem hi
    generalize (un L (rn L seed k).2.1)[rng (rn L seed k).1 % (L - k)] = p at *
    unfold un at hm
    rw [List.mem_filter, List.mem_range] at hm
    have hnp : ¬ p ∈ (rn L seed k).2.2 := fun h => by
      have := (h2 p).1 h
      rw [this.2] at hm
      simp at hm
    refine ⟨?_, by rw [List.length_append, h0]; rfl, fun a => ?_⟩
    · rw [List.nodup_append]
      refine ⟨h1, by simp, fun a ha b hb => ?_⟩
      rw [List.mem_singleton] at hb
      subst hb
      exact fun e => hnp (e ▸ ha)
    · rw [List.mem_append, List.mem_singleton, h2]
      unfold see
      by_cases e : a = p
      · subst e; simp [hm.1]
      · simp [e]
/-- sorted: those that were taken, in ascending order -/
theorem sorted_tk {L : Nat} {t : Nat → Bool} {d : List Nat} (hn : d.Nodup) (hm : ∀ a, a ∈ d ↔ a < L ∧ t a = true) :
    (d.map (fun n : Nat => (n : Int))).mergeSort (fun x y => decide (x ≤ y)) = (tk L t).map (fun n : Nat => (n : Int)) := by
  have hp : d.Perm (tk L t) := (List.perm_ext_iff_of_nodup hn (nodup_filter List.nodup_range _)).2 fun a => by
    rw [hm, List.mem_filter, List.mem_range]
  refine List.Perm.eq_of_pairwise (le := fun x y : Int => x ≤ y) (fun a b _ _ h1 h2 => by omega) ?_ ?_ ((List.mergeSort_perm _ _).trans (hp.map _))
  · have := List.pairwise_mergeSort (le := fun x y : Int => decide (x ≤ y)) (fun a b c h1 h2 => by simp at *; omega) (fun a b => by simp; omega) (d.map (fun n : Nat => (n : Int)))
    exact this.imp fun h => of_decide_eq_true h
  · rw [List.pairwise_map]
    refine List.Pairwise.imp (fun h => ?_) (List.Pairwise.filter _ List.pairwise_lt_range)
    omega
theorem tk_len {L : Nat} {t : Nat → Bool} {d : List Nat} (hn : d.Nodup) (hm : ∀ a, a ∈ d ↔ a < L ∧ t a = true) : (tk L t).length = d.length := by
  have hp : d.Perm (tk L t) := (List.perm_ext_iff_of_nodup hn (nodup_filter List.nodup_range _)).2 fun a => by
    rw [hm, List.mem_filter, List.mem_range]
  exact hp.length_eq.symm
theorem tk_snoc (t : Nat → Bool) (i : Nat) : tk (i + 1) t = if t i = true then tk i t ++ [i] else tk i t := by
  unfold tk
  rw [List.range_succ, List.filter_append]
  by_cases e : t i = true
  · rw [if_pos e, List.filter_cons_of_pos e]; rfl
  · rw [if_neg e, List.filter_cons_of_neg e, List.filter_nil, List.append_nil]
/-- those that are left, from i on -/
def rst' (L : Nat) (t : Nat → Bool) (i : Nat) : List Nat := ((List.range L).drop i).filter fun i => !t i
theorem rst'_zero (L : Nat) (t : Nat → Bool) : rst' L t 0 = un L t := rfl
theorem rst'_end (L : Nat) (t : Nat → Bool) : rst' L t L = [] := by unfold rst'; rw [List.drop_of_length_le (by simp)]; rfl
theorem rst'_yes {L : Nat} {t : Nat → Bool} {i : Nat} (hi : i < L) (h : t i = true) : rst' L t i = rst' L t (i + 1) := by
  unfold rst'
  rw [List.drop_eq_getElem_cons (by simpa using hi), List.getElem_range, List.filter_cons_of_neg (by simp [h])]
theorem rst'_no {L : Nat} {t : Nat → Bool} {i : Nat} (hi : i < L) (h : t i = false) : rst' L t i = i :: rst' L t (i + 1) := by
  unfold rst'
  rw [List.drop_eq_getElem_cons (by simpa using hi), List.getElem_range, List.filter_cons_of_pos (by simp [h])]
/-- as it is asked for -/
def dok (x L s : Int) : Bool := inB 1 x 2147483646 && (inB 1 L 60 && inB 0 s L)
def De (x L s : Int) : Int := if dok x L s = true then 0 else 2
def dl (x L s : Nat) : List Nat := tk L (rn L x s).2.1
def Dl (x L s : Int) : List Nat := if dok x L s = true then dl x.toNat L.toNat s.toNat else []
theorem dok_ok {x L s : Int} (h : dok x L s = true) : ∃ y l k : Nat, x = y ∧ L = l ∧ s = k ∧ 1 ≤ y ∧ y ≤ 2147483646 ∧ 1 ≤ l ∧ l ≤ 60 ∧ k ≤ l ∧ De x L s = 0 ∧ Dl x L s = dl y l k := by
  have h0 := h
  unfold dok at h
  simp only [Bool.and_eq_true, inB_iff] at h
  obtain ⟨⟨a1, a2⟩, ⟨a3, a4⟩, a5, a6⟩ := h
  obtain ⟨y, rfl⟩ : ∃ k : Nat, x = k := ⟨x.toNat, by omega⟩
  obtain ⟨l, rfl⟩ : ∃ k : Nat, L = k := ⟨L.toNat, by omega⟩
  obtain ⟨k, rfl⟩ : ∃ k : Nat, s = k := ⟨s.toNat, by omega⟩
  refine ⟨y, l, k, rfl, rfl, rfl, by omega, by omega, by omega, by omega, by omega, ?_, ?_⟩
  · unfold De; rw [if_pos h0]
  · unfold Dl; rw [if_pos h0]; rfl
theorem dok_no {x L s : Int} (h : dok x L s = false) : De x L s = 2 ∧ Dl x L s = [] := by
  unfold De Dl; rw [h]; exact ⟨rfl, rfl⟩
theorem dl_len {x L s : Nat} (h : s ≤ L) : (dl x L s).length = s := by
  obtain ⟨h1, h2, h3⟩ := rn_mem L x s h
  unfold dl
  rw [tk_len h1 h3, h2]
end Go.Proofs.Ytfkhlglagokodaa.Pl
