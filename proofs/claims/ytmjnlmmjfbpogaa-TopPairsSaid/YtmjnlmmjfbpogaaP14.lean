/- Plain: a pairing and a guard are proofs for one another; what Rest leaves; what Check says of mt. -/
import Derived.Test.YtmjnlmmjfbpogaaP13
import Derived.Test.YtmjnlmmjfbpogaaP10
import Derived.Test.YtmjnlmmjfbpogaaP5
namespace Go.Proofs.Ytmjnlmmjfbpogaa.Pl

theorem can_iff' {a b : Tm} {tol : Int} : can a b tol = true ↔ (a.side ≠ b.side ∧ a.col = b.col) ∧ -tol ≤ a.len - b.len ∧ a.len - b.len ≤ tol := by
  unfold can
  rw [Bool.and_eq_true, Bool.and_eq_true, decide_eq_true_iff, decide_eq_true_iff, inB_true]
theorem can_symm {a b : Tm} {tol : Int} (h : can a b tol = true) : can b a tol = true := by
  obtain ⟨⟨h1, h2⟩, h3, h4⟩ := can_iff'.1 h
  exact can_iff'.2 ⟨⟨fun e => h1 e.symm, h2.symm⟩, by omega, by omega⟩
theorem ed_of {l : List Tm} {tol : Int} {i j : Nat} (ho : Ok l) (hi : i < l.length) (hj : j < l.length) (h : can (at' l i) (at' l j) tol = true) : Ed l tol i j ∨ Ed l tol j i := by
  obtain ⟨⟨h1, _⟩, _⟩ := can_iff'.1 h
  have vi := (ho.vt i hi).s
  have vj := (ho.vt j hj).s
  rcases vi with e | e
  · exact .inl ⟨hi, hj, e, by rcases vj with f | f; exact absurd (e.trans f.symm) h1; exact f, h⟩
  · exact .inr ⟨hj, hi, by rcases vj with f | f; exact f; exact absurd (e.trans f.symm) h1, e, can_symm h⟩
/-- the set of a list of different indexes -/
theorem gi_map {n : Nat} : ∀ {L : List Nat} {u : Nat → Bool}, L.Nodup → (∀ i, i ∈ L → i < n ∧ u i = false) → ∃ u', gi n (L.map fun i : Nat => (i : Int)) u = some u' ∧ ∀ q, u' q = true ↔ u q = true ∨ q ∈ L
  | [], u, _, _ => ⟨u, rfl, fun q => by simp⟩
  | i :: L, u, hn, h => by
    obtain ⟨h1, h2⟩ := h i List.mem_cons_self
    obtain ⟨n1, n2⟩ := List.nodup_cons.1 hn
    obtain ⟨u', e, hq⟩ := gi_map (n := n) (L := L) (u := see u i) n2 (fun j hj => ⟨(h j (List.mem_cons_of_mem _ hj)).1, see_false.2 ⟨fun e => n1 (e ▸ hj), (h j (List.mem_cons_of_mem _ hj)).2⟩⟩)
    refine ⟨u', ?_, fun q => ?_⟩
    · rw [List.map_cons, gi, Int.toNat_natCast, if_pos ⟨⟨by omega, by omega⟩, h2⟩]; exact e
    · rw [hq, see_true, List.mem_cons, or_assoc, or_left_comm]
theorem gi_mem {n : Nat} : ∀ {L : List Int} {u u' : Nat → Bool}, gi n L u = some u' → ∀ q : Nat, u' q = true → u q = true ∨ (q : Int) ∈ L
  | [], u, u', h, q, hq => by
    rw [gi] at h
    cases h
    exact .inl hq
  | i :: L, u, u', h, q, hq => by
    rw [gi] at h
    by_cases c : (0 ≤ i ∧ i < n) ∧ u i.toNat = false
    · rw [if_pos c] at h
      rcases gi_mem h q hq with e | e
      · rcases see_true.1 e with rfl | e
        · exact .inr (by rw [Int.toNat_of_nonneg c.1.1]; exact List.mem_cons_self)
        · exact .inl e
      · exact .inr (List.mem_cons_of_mem _ e)
    · rw [if_neg c] at h
      cases h
section
variable {l : List Tm} {tol : Int} {S : Nat → Bool}
/-- the guard is a guard -/
theorem ig_gu (ho : Ok l) (h : Rt l tol l.length S) (hc : ck l tol = 0) : igV l tol ((gu l S).map fun i : Nat => (i : Int)) = true ∧ igE l tol ((gu l S).map fun i : Nat => (i : Int)) = 0 := by
  obtain ⟨u, e, hu⟩ := gi_map (n := l.length) (L := gu l S) (u := noS) gu_nodup (fun i hi => ⟨(gu_mem.1 hi).1, rfl⟩)
  unfold igV igE
  rw [if_pos hc, if_pos hc, e]
  refine ⟨?_, rfl⟩
  show gd l tol u = true
  unfold gd
  rw [List.all_eq_true]
  intro i hi
  rw [List.all_eq_true]
  intro k hk
  rw [List.mem_range] at hi hk
  have hk' : k < l.length := by omega
  show (!gdk l tol u i k) = true
  cases c : gdk l tol u i k with
  | false => rfl
  | true =>
    exfalso
    unfold gdk at c
    rw [Bool.and_eq_true, Bool.and_eq_true, Bool.not_eq_true', Bool.not_eq_true'] at c
    obtain ⟨c1, c2, c3⟩ := c
    have hin : i ∈ gu l S ∨ k ∈ gu l S := by
      rcases ed_of ho hi hk' c1 with he | he
      · exact gu_cover h he
      · exact (gu_cover h he).symm
    rcases hin with q | q
    · have := (hu i).2 (.inr q); rw [c2] at this; cases this
    · have := (hu k).2 (.inr q); rw [c3] at this; cases this
/-- it rises -/
theorem gu_rise : (gu l S).Pairwise (fun a b => a < b) := List.Pairwise.filter _ List.pairwise_lt_range
theorem gu_at {k : Nat} (h : k + 1 < (gu l S).length) : (gu l S)[k] < (gu l S)[k + 1] := List.pairwise_iff_getElem.1 gu_rise k (k + 1) (by omega) h (by omega)
end
/-- one of each pair: different ones -/
theorem pick_nodup {l : List Tm} {tol : Int} {M : List (Nat × Nat)} (hM : Mch (Ed l tol) M) (f : Nat × Nat → Nat) (hf : ∀ e, e ∈ M → f e = e.1 ∨ f e = e.2) : (M.map f).Nodup := by
  have h1 := List.pairwise_map.1 hM.n1
  have h2 := List.pairwise_map.1 hM.n2
  refine List.pairwise_map.2 ((h1.and h2).imp_of_mem fun {x y} hx hy h => ?_)
  have ex := hM.rel x hx
  have ey := hM.rel y hy
  have n1 : x.2 ≠ y.1 := fun e => by have := ex.s2; have := ey.s1; rw [e] at *; omega
  have n2 : x.1 ≠ y.2 := fun e => by have := ex.s1; have := ey.s2; rw [e] at *; omega
  rcases hf x hx with a | a <;> rcases hf y hy with b | b <;> rw [a, b]
  · exact h.1
  · exact n2
  · exact n1
  · exact h.2
/-- a guard has one of each pair -/
theorem ig_len {l : List Tm} {tol : Int} {L : List Int} (h : igV l tol L = true) : (mt l tol).length ≤ L.length := by
  unfold igV at h
  by_cases hc : ck l tol = 0
  · rw [if_pos hc] at h
    cases e : gi l.length L noS with
    | none => rw [e] at h; cases h
    | some u =>
      rw [e] at h
      have hg : ∀ i k, i < l.length → k < i → gdk l tol u i k = false := fun i k hi hk => by
        cases c : gdk l tol u i k with
        | false => rfl
        | true => have := gd_no hi hk c; rw [show gd l tol u = true from h] at this; cases this
      have hM := mt_mch l tol
      have hp : ∀ x, x ∈ mt l tol → u x.1 = true ∨ u x.2 = true := fun x hx => by
        have hE := hM.rel x hx
        have hne := (mt_idx l tol hx).2.2
        cases c1 : u x.1 with
        | true => exact .inl rfl
        | false =>
          cases c2 : u x.2 with
          | true => exact .inr rfl
          | false =>
            exfalso
            by_cases hlt : x.2 < x.1
            · have := hg x.1 x.2 hE.a hlt
              unfold gdk at this
              rw [hE.can, c1, c2] at this
              cases this
            · have := hg x.2 x.1 hE.b (by omega)
              unfold gdk at this
              rw [can_symm hE.can, c1, c2] at this
              cases this
      have hn := pick_nodup hM (fun x => if u x.1 = true then x.1 else x.2) (fun x _ => by by_cases c : u x.1 = true <;> simp [c])
      have hn2 : (((mt l tol).map (fun x => if u x.1 = true then x.1 else x.2)).map (fun i : Nat => (i : Int))).Nodup :=
        List.pairwise_map.2 (hn.imp fun hne e => hne (by omega))
      have := List.Nodup.length_le_of_subset hn2 (l₂ := L) (fun z hz => by
        obtain ⟨q, hq, rfl⟩ := List.mem_map.1 hz
        obtain ⟨x, hx, rfl⟩ := List.mem_map.1 hq
        have hu : u (if u x.1 = true then x.1 else x.2) = true := by
          by_cases c : u x.1 = true
          · rw [if_pos c]; exact c
          · rw [if_neg c]; exact (hp x hx).resolve_left c
        rcases gi_mem e _ hu with f | f
        · cases f
        · exact f)
      simpa using this
  · rw [if_neg hc] at h
    cases h
/-- what pairs leave -/
theorem rs_count {l : List Tm} {tol : Int} {M : List (Nat × Nat)} (hM : Mch (Ed l tol) M) : (rs l.length M).length + 2 * M.length = l.length := by
  have hd : (M.map (·.1) ++ M.map (·.2)).Nodup := by
    rw [List.nodup_append]
    refine ⟨hM.n1, hM.n2, fun a ha b hb e => ?_⟩
    obtain ⟨x, hx, rfl⟩ := List.mem_map.1 ha
    obtain ⟨y, hy, rfl⟩ := List.mem_map.1 hb
    have h1 := (hM.rel x hx).s1
    have h2 := (hM.rel y hy).s2
    rw [e] at h1
    omega
  have hm : ∀ i, i ∈ (List.range l.length).filter (hit M) ↔ i ∈ M.map (·.1) ++ M.map (·.2) := fun i => by
    rw [List.mem_filter, List.mem_range, List.mem_append, List.mem_map, List.mem_map]
    unfold hit
    rw [List.any_eq_true]
    constructor
    · rintro ⟨_, x, hx, h⟩
      rw [Bool.or_eq_true, decide_eq_true_iff, decide_eq_true_iff] at h
      rcases h with h | h
      · exact .inl ⟨x, hx, h⟩
      · exact .inr ⟨x, hx, h⟩
    · rintro (⟨x, hx, rfl⟩ | ⟨x, hx, rfl⟩)
      · exact ⟨(hM.rel x hx).a, x, hx, by simp⟩
      · exact ⟨(hM.rel x hx).b, x, hx, by simp⟩
  have hp : ((List.range l.length).filter (hit M)).Perm (M.map (·.1) ++ M.map (·.2)) := (List.perm_ext_iff_of_nodup (List.nodup_range.filter _) hd).2 hm
  have hl := hp.length_eq
  rw [List.length_append, List.length_map, List.length_map] at hl
  have hs := List.length_eq_countP_add_countP (p := hit M) (l := List.range l.length)
  rw [List.length_range, List.countP_eq_length_filter, List.countP_eq_length_filter] at hs
  have hr : (rs l.length M).length = (List.filter (fun a => decide ¬hit M a = true) (List.range l.length)).length := by
    unfold rs
    congr 1
    refine List.filter_congr fun a _ => ?_
    cases hit M a <;> rfl
  omega
/-- pairs that Check lets by -/
theorem jgn_mch {l : List Tm} {tol : Int} : ∀ {qs : List (Nat × Nat)} {u : Nat → Bool}, Mch (Ed l tol) qs → (∀ e, e ∈ qs → u e.1 = false ∧ u e.2 = false) → jgn l tol qs u = 0
  | [], _, _, _ => rfl
  | (i, j) :: qs, u, hM, hu => by
    have hE := hM.rel (i, j) List.mem_cons_self
    obtain ⟨t1, t2, t3⟩ := hM.tail
    obtain ⟨u1, u2⟩ := hu (i, j) List.mem_cons_self
    have hne : i ≠ j := fun e => by have := hE.s1; have := hE.s2; simp only at *; rw [e] at *; omega
    rw [jgn_on hne u1 u2 hE.s1 hE.can]
    refine jgn_mch t1 fun e he => ?_
    have hEe := t1.rel e he
    have a1 := t2 e he
    have a2 := t3 e he
    have b1 : e.1 ≠ j := fun x => by have := hEe.s1; have := hE.s2; simp only at *; rw [x] at *; omega
    have b2 : e.2 ≠ i := fun x => by have := hEe.s2; have := hE.s1; simp only at *; rw [x] at *; omega
    obtain ⟨c1, c2⟩ := hu e (List.mem_cons_of_mem _ he)
    simp only at a1 a2
    simp [a1, a2, b1, b2, c1, c2]
theorem jgn_len {l : List Tm} {tol : Int} (ho : Ok l) : ∀ {qs : List (Nat × Nat)} {u : Nat → Bool}, (∀ e, e ∈ qs → e.1 < l.length ∧ e.2 < l.length) → jgn l tol qs u = 0 → Mch (Ed l tol) qs ∧ ∀ e, e ∈ qs → u e.1 = false ∧ u e.2 = false
  | [], _, _, _ => ⟨Mch.nil _, fun _ h => by cases h⟩
  | (i, j) :: qs, u, hi, h => by
    rw [jgn] at h
    by_cases c : i = j ∨ u i = true ∨ u j = true
    · rw [if_pos c] at h; cases h
    rw [if_neg c] at h
    by_cases d : (at' l i).side ≠ 1 ∨ can (at' l i) (at' l j) tol = false
    · rw [if_pos d] at h; cases h
    rw [if_neg d] at h
    rw [not_or] at d
    obtain ⟨d1, d2⟩ := d
    have d1' : (at' l i).side = 1 := Classical.not_not.1 d1
    have d2' : can (at' l i) (at' l j) tol = true := by simpa using d2
    rw [not_or, not_or] at c
    obtain ⟨c1, c2, c3⟩ := c
    obtain ⟨r1, r2⟩ := jgn_len ho (fun e he => hi e (List.mem_cons_of_mem _ he)) h
    obtain ⟨hi1, hi2⟩ := hi (i, j) List.mem_cons_self
    have hE : Ed l tol i j := by
      rcases ed_of ho hi1 hi2 d2' with e | e
      · exact e
      · exact absurd (d1'.symm.trans e.s2) (by decide)
    have r3 : ∀ e, e ∈ qs → (e.1 ≠ j ∧ e.1 ≠ i ∧ u e.1 = false) ∧ e.2 ≠ j ∧ e.2 ≠ i ∧ u e.2 = false := fun e he => by
      have := r2 e he
      simpa [Bool.or_eq_false_iff] using this
    refine ⟨Mch.cons r1 hE (fun x hx => (r3 x hx).1.2.1) (fun x hx => (r3 x hx).2.1), fun e he => ?_⟩
    rcases List.mem_cons.1 he with rfl | he
    · exact ⟨by simpa using c2, by simpa using c3⟩
    · exact ⟨(r3 e he).1.2.2, (r3 e he).2.2.2⟩
/-- Check of Match -/
theorem chk_mt {l : List Tm} {tol : Int} (hc : ck l tol = 0) : chk l tol ((mt l tol).map fun e => ((e.1 : Int), (e.2 : Int))) = 0 := by
  unfold chk jd
  rw [if_pos hc, if_pos]
  · rw [List.map_map]
    have : (nat2 ∘ fun e : Nat × Nat => ((e.1 : Int), (e.2 : Int))) = id := by funext e; rfl
    rw [this, List.map_id]
    exact jgn_mch (mt_mch l tol) (fun _ _ => ⟨rfl, rfl⟩)
  · rw [List.all_eq_true]
    intro x hx
    obtain ⟨e, he, rfl⟩ := List.mem_map.1 hx
    obtain ⟨h1, h2, _⟩ := mt_idx l tol he
    unfold pok
    rw [Bool.and_eq_true, decide_eq_true_iff, decide_eq_true_iff]
    exact ⟨⟨by omega, by simp only; omega⟩, by omega, by simp only; omega⟩
/-- no pairs that Check lets by are more -/
theorem chk_len {l : List Tm} {tol : Int} (ho : Ok l) {ps : List (Int × Int)} (h : chk l tol ps = 0) : ps.length ≤ (mt l tol).length := by
  unfold chk at h
  by_cases hc : ck l tol = 0
  · rw [if_pos hc] at h
    unfold jd at h
    by_cases ha : ps.all (pok l.length) = true
    · rw [if_pos ha] at h
      have hM := (jgn_len ho (fun e he => by
        obtain ⟨p, hp, rfl⟩ := List.mem_map.1 he
        have := pok_true (List.all_eq_true.1 ha p hp)
        unfold nat2
        exact ⟨by simp only; omega, by simp only; omega⟩) h).1
      have := mt_max ho hM
      rwa [List.length_map] at this
    · rw [if_neg ha] at h
      cases h
  · rw [if_neg hc] at h
    exact absurd h hc
/-- what Guard returns -/
structure Gp (l : List Tm) (tol : Int) (g : List Nat) : Prop where
  len : g.length = (Mt l tol).length
  small : g.length ≤ l.length
  ig : ck l tol = 0 → igV l tol (g.map fun i : Nat => (i : Int)) = true ∧ igE l tol (g.map fun i : Nat => (i : Int)) = 0
  rise : ∀ k (h : k + 1 < g.length), g[k] < g[k + 1]
theorem gp_gu {l : List Tm} {tol : Int} {S : Nat → Bool} (ho : Ok l) (h : Rt l tol l.length S) (hc : ck l tol = 0) : Gp l tol (gu l S) :=
  ⟨by unfold Mt; rw [if_pos hc]; exact gu_len ho h, Nat.le_trans (List.length_filter_le _ _) (by rw [List.length_range]; exact Nat.le_refl _), fun _ => ig_gu ho h hc, fun _ h => gu_at h⟩
theorem gp_nil {l : List Tm} {tol : Int} (hc : ¬ ck l tol = 0) : Gp l tol [] :=
  ⟨by unfold Mt; rw [if_neg hc]; rfl, Nat.zero_le _, fun h => absurd h hc, fun _ h => by cases h⟩
end Go.Proofs.Ytmjnlmmjfbpogaa.Pl
