/- Plain: the fewest sets that cover all; of several choices of them the one whose list comes first. -/
import Derived.Test.YtghbipipehglfaaDoorP9
namespace Go.Proofs.YtghbipipehglfaaDoor.Pl

/-- at the least index that only one of them has, s has it -/
def ahd (s t : Nat) : Prop := ∃ p, s.testBit p = true ∧ t.testBit p = false ∧ ∀ j, j < p → s.testBit j = t.testBit j
theorem ahd_trans {s t u : Nat} (h1 : ahd s t) (h2 : ahd t u) : ahd s u := by
  obtain ⟨p, a1, a2, a3⟩ := h1
  obtain ⟨q, b1, b2, b3⟩ := h2
  rcases Nat.lt_trichotomy p q with h | rfl | h
  · exact ⟨p, a1, by rw [← b3 p h]; exact a2, fun j hj => by rw [a3 j hj, b3 j (by omega)]⟩
  · rw [a2] at b1; cases b1
  · exact ⟨q, by rw [a3 q h]; exact b1, b2, fun j hj => by rw [a3 j (by omega), b3 j hj]⟩
theorem ahd_irrefl {s : Nat} : ¬ ahd s s := by
  rintro ⟨p, a1, a2, _⟩
  rw [a1] at a2; cases a2
def prec (s t : Nat) : Bool := if cnt s = cnt t then (decide (s ^^^ t ≠ 0) && s.testBit (Lib.ctz 64 (s ^^^ t))) else decide (cnt s < cnt t)
theorem xor_zero {s t : Nat} : s ^^^ t = 0 ↔ s = t := by
  constructor
  · intro h
    refine Nat.eq_of_testBit_eq fun j => ?_
    have := congrArg (fun m => m.testBit j) h
    simp only [Nat.testBit_xor, Nat.zero_testBit] at this
    cases e1 : s.testBit j <;> cases e2 : t.testBit j <;> simp_all
  · rintro rfl; exact Nat.xor_self _
theorem ahd_ctz {s t : Nat} (hs : s < 2 ^ 64) (ht : t < 2 ^ 64) (h0 : s ^^^ t ≠ 0) : (s.testBit (Lib.ctz 64 (s ^^^ t)) = true ↔ ahd s t) ∧ (s.testBit (Lib.ctz 64 (s ^^^ t)) = false ↔ ahd t s) := by
  have hx : s ^^^ t < 2 ^ 64 := Nat.xor_lt_two_pow hs ht
  have hc : Lib.ctz 64 (s ^^^ t) = Lib.ctzFrom 64 (s ^^^ t) := if_neg h0
  obtain ⟨m, hm, _⟩ := Lib.ctzFrom_spec 64 (s ^^^ t) (by omega) hx
  rw [hc]
  generalize Lib.ctzFrom 64 (s ^^^ t) = k at *
  obtain ⟨b1, b2, _⟩ := ctz_bits hm
  rw [Nat.testBit_xor] at b1
  have b3 : ∀ j, j < k → s.testBit j = t.testBit j := fun j hj => by
    have := b2 j hj
    rw [Nat.testBit_xor] at this
    cases e1 : s.testBit j <;> cases e2 : t.testBit j <;> simp_all
  have key : ∀ {a b : Nat}, (∀ j, j < k → a.testBit j = b.testBit j) → (a.testBit k ^^ b.testBit k) = true → ahd a b → a.testBit k = true := by
    rintro a b hab hne ⟨p, c1, c2, c3⟩
    rcases Nat.lt_trichotomy p k with h | rfl | h
    · rw [hab p h, c2] at c1; cases c1
    · exact c1
    · rw [c3 k h] at hne; simp at hne
  refine ⟨⟨fun h => ⟨k, h, ?_, b3⟩, key b3 b1⟩, ⟨fun h => ⟨k, ?_, h, fun j hj => (b3 j hj).symm⟩, fun h => ?_⟩⟩
  · rw [h] at b1; simpa using b1
  · rw [h] at b1; simpa using b1
  · have := key (fun j hj => (b3 j hj).symm) (by rw [Bool.xor_comm]; exact b1) h
    rw [this] at b1; simpa using b1
theorem prec_iff {s t : Nat} (hs : s < 2 ^ 64) (ht : t < 2 ^ 64) : prec s t = true ↔ cnt s < cnt t ∨ (cnt s = cnt t ∧ ahd s t) := by
  unfold prec
  split
  · rename_i h
    rw [Bool.and_eq_true, decide_eq_true_eq]
    constructor
    · rintro ⟨h1, h2⟩; exact .inr ⟨h, (ahd_ctz hs ht h1).1.1 h2⟩
    · rintro (h1 | ⟨_, h1⟩)
      · omega
      · have h0 : s ^^^ t ≠ 0 := fun e => by
          obtain rfl := xor_zero.1 e
          exact ahd_irrefl h1
        exact ⟨h0, (ahd_ctz hs ht h0).1.2 h1⟩
  · rename_i h
    rw [decide_eq_true_eq]
    exact ⟨.inl, fun h1 => h1.resolve_right fun h2 => h h2.1⟩
theorem prec_total {s t : Nat} (hs : s < 2 ^ 64) (ht : t < 2 ^ 64) (hne : s ≠ t) : prec s t = true ∨ prec t s = true := by
  rw [prec_iff hs ht, prec_iff ht hs]
  rcases Nat.lt_trichotomy (cnt s) (cnt t) with h | h | h
  · exact .inl (.inl h)
  · have h0 : s ^^^ t ≠ 0 := fun e => hne (xor_zero.1 e)
    have := ahd_ctz hs ht h0
    cases e : s.testBit (Lib.ctz 64 (s ^^^ t)) with
    | true => exact .inl (.inr ⟨h, this.1.1 e⟩)
    | false => exact .inr (.inr ⟨h.symm, this.2.1 e⟩)
  · exact .inr (.inl h)
theorem prec_trans {s t u : Nat} (hs : s < 2 ^ 64) (ht : t < 2 ^ 64) (hu : u < 2 ^ 64) (h1 : prec s t = true) (h2 : prec t u = true) : prec s u = true := by
  rw [prec_iff hs ht] at h1
  rw [prec_iff ht hu] at h2
  rw [prec_iff hs hu]
  rcases h1 with h1 | ⟨h1, a1⟩ <;> rcases h2 with h2 | ⟨h2, a2⟩
  · exact .inl (by omega)
  · exact .inl (by omega)
  · exact .inl (by omega)
  · exact .inr ⟨by omega, ahd_trans a1 a2⟩
theorem prec_irrefl {s : Nat} (hs : s < 2 ^ 64) : prec s s = false := by
  cases e : prec s s with
  | false => rfl
  | true =>
    rcases (prec_iff hs hs).1 e with h | ⟨_, h⟩
    · omega
    · exact absurd h ahd_irrefl

/-- the best of the choices below k, and of all sets -/
def fwk (C : Nat → Bool) (all : Nat) : Nat → Nat
  | 0 => all
  | k + 1 => if (C k && prec k (fwk C all k)) = true then k else fwk C all k
theorem fwk_le (C : Nat → Bool) (all : Nat) : ∀ k, k ≤ all → fwk C all k ≤ all
  | 0, _ => Nat.le_refl _
  | k + 1, h => by
    have := fwk_le C all k (by omega)
    rw [fwk]; split <;> omega
theorem fwk_C {C : Nat → Bool} {all : Nat} (hC : C all = true) : ∀ k, C (fwk C all k) = true
  | 0 => hC
  | k + 1 => by
    rw [fwk]
    split
    · rename_i h; rw [Bool.and_eq_true] at h; exact h.1
    · exact fwk_C hC k
theorem fwk_min {C : Nat → Bool} {all : Nat} (h64 : all < 2 ^ 64) : ∀ k, k ≤ all → ∀ t, (t < k ∨ t = all) → C t = true → prec t (fwk C all k) = false
  | 0, _, t, ht, _ => by
    rcases ht with ht | rfl
    · omega
    · exact prec_irrefl h64
  | k + 1, hk, t, ht, hC => by
    have ih := fwk_min (C := C) h64 k (by omega)
    have hle := fwk_le C all k (by omega)
    have ht64 : t < 2 ^ 64 := by rcases ht with ht | rfl <;> omega
    rw [fwk]
    split
    · rename_i h
      rw [Bool.and_eq_true] at h
      by_cases e : t = k
      · rw [e]; exact prec_irrefl (by omega)
      · cases e2 : prec t k with
        | false => rfl
        | true =>
          have h3 := prec_trans ht64 (by omega) (by omega) e2 h.2
          rw [ih t (by omega) hC] at h3
          cases h3
    · rename_i h
      by_cases e : t = k
      · subst e
        cases e2 : prec t (fwk C all t) with
        | false => rfl
        | true => exact absurd (by rw [hC, e2]; rfl) h
      · exact ih t (by omega) hC

theorem inc_ext : ∀ {l m : List Nat}, l.Pairwise (· < ·) → m.Pairwise (· < ·) → (∀ x, x ∈ l ↔ x ∈ m) → l = m
  | [], [], _, _, _ => rfl
  | [], b :: m, _, _, h => by have := (h b).2 (by simp); cases this
  | a :: l, [], _, _, h => by have := (h a).1 (by simp); cases this
  | a :: l, b :: m, hl, hm, h => by
    rw [List.pairwise_cons] at hl hm
    have e : a = b := by
      rcases List.mem_cons.1 ((h a).1 (by simp)) with e | h1
      · exact e
      · rcases List.mem_cons.1 ((h b).2 (by simp)) with e | h2
        · exact e.symm
        · have := hm.1 a h1; have := hl.1 b h2; omega
    subst e
    congr 1
    refine inc_ext hl.2 hm.2 fun x => ⟨fun hx => ?_, fun hx => ?_⟩
    · rcases List.mem_cons.1 ((h x).1 (List.mem_cons_of_mem _ hx)) with e | h1
      · have := hl.1 x hx; omega
      · exact h1
    · rcases List.mem_cons.1 ((h x).2 (List.mem_cons_of_mem _ hx)) with e | h1
      · have := hm.1 x hx; omega
      · exact h1
theorem els_inc (m n : Nat) : (els m n).Pairwise (· < ·) := List.Pairwise.filter _ List.pairwise_lt_range
/-- the set of a list of indexes -/
def mkl (l : List Nat) : Nat := unl (fun i => 2 ^ i) l
theorem mkl_bit (l : List Nat) (j : Nat) : (mkl l).testBit j = decide (j ∈ l) := by
  unfold mkl
  rw [unl_bit, Bool.eq_iff_iff, List.any_eq_true, decide_eq_true_eq]
  constructor
  · rintro ⟨i, hi, hb⟩
    rw [Nat.testBit_two_pow, decide_eq_true_eq] at hb
    subst hb; exact hi
  · intro h
    exact ⟨j, h, by rw [Nat.testBit_two_pow]; simp⟩
theorem mkl_lt {l : List Nat} {n : Nat} (h : ∀ i ∈ l, i < n) : mkl l < 2 ^ n := unl_lt fun i hi => Nat.pow_lt_pow_right (by omega) (h i hi)
theorem els_mkl {l : List Nat} {n : Nat} (hl : l.Pairwise (· < ·)) (h : ∀ i ∈ l, i < n) : els (mkl l) n = l := by
  refine inc_ext (els_inc _ _) hl fun x => ?_
  rw [mem_els, mkl_bit, decide_eq_true_eq]
  exact ⟨fun hh => hh.2, fun hh => ⟨h x hh, hh⟩⟩

/-- where the greater indexes begin -/
def frm (l : List Nat) : Nat := match l.getLast? with | none => 0 | some x => x + 1
/-- the first cover that begins with a list and goes on with so many greater indexes -/
def frs (C : List Nat → Bool) (n : Nat) : Nat → List Nat → Option (List Nat)
  | 0, l => if C l = true then some l else none
  | m + 1, l => ((List.range n).drop (frm l)).findSome? fun i => frs C n m (l ++ [i])
/-- the list e comes ahead of r -/
def Lx (e r : List Nat) : Prop := ∃ q p x : Nat, e[q]? = some p ∧ r[q]? = some x ∧ p < x ∧ ∀ j, j < q → e[j]? = r[j]?
theorem drop_range (n k : Nat) : (List.range n).drop k = (List.range (n - k)).map fun i => k + i := by
  refine List.ext_getElem? fun i => ?_
  rw [List.getElem?_drop, List.getElem?_map]
  by_cases h : k + i < n
  · rw [List.getElem?_range h, List.getElem?_range (by omega)]; rfl
  · rw [List.getElem?_eq_none (by simpa using h), List.getElem?_eq_none (by simp; omega)]; rfl
theorem mem_drop {n k i : Nat} : i ∈ (List.range n).drop k ↔ k ≤ i ∧ i < n := by
  rw [drop_range, List.mem_map]
  constructor
  · rintro ⟨j, hj, rfl⟩; rw [List.mem_range] at hj; omega
  · rintro ⟨h1, h2⟩; exact ⟨i - k, by rw [List.mem_range]; omega, by omega⟩
theorem frm_le {l : List Nat} {i : Nat} (h : (l ++ [i]).Pairwise (· < ·)) : frm l ≤ i := by
  unfold frm
  split
  · omega
  · rename_i x hx
    have := List.mem_of_getLast? hx
    rw [List.pairwise_append] at h
    have := h.2.2 x this i (by simp)
    omega
theorem frm_inc {l : List Nat} {i : Nat} (h : l.Pairwise (· < ·)) (hi : frm l ≤ i) : (l ++ [i]).Pairwise (· < ·) := by
  rw [List.pairwise_append]
  refine ⟨h, by simp, fun a ha b hb => ?_⟩
  obtain rfl : b = i := by simpa using hb
  rcases List.eq_nil_or_concat l with rfl | ⟨l', x, rfl⟩
  · cases ha
  · rw [List.concat_eq_append] at *
    unfold frm at hi
    rw [List.getLast?_append] at hi
    simp only [List.getLast?_singleton, Option.some_or] at hi
    rw [List.pairwise_append] at h
    rcases List.mem_append.1 ha with h1 | h1
    · have := h.2.2 a h1 x (by simp); omega
    · obtain rfl : a = x := by simpa using h1
      omega
theorem frs_spec {C : List Nat → Bool} {n : Nat} : ∀ (m : Nat) (l r : List Nat), frs C n m l = some r → l.Pairwise (· < ·) → (∀ i ∈ l, i < n) →
    r.Pairwise (· < ·) ∧ (∀ i ∈ r, i < n) ∧ C r = true ∧ r.length = l.length + m ∧ l <+: r
  | 0, l, r, h, hl, hn => by
    rw [frs] at h
    split at h
    · rename_i hC; cases h
      exact ⟨hl, hn, hC, rfl, List.prefix_refl _⟩
    · cases h
  | m + 1, l, r, h, hl, hn => by
    rw [frs] at h
    obtain ⟨i, hi, hr⟩ := List.exists_of_findSome?_eq_some h
    rw [mem_drop] at hi
    obtain ⟨h1, h2, h3, h4, h5⟩ := frs_spec m _ r hr (frm_inc hl hi.1) (fun j hj => by
      rcases List.mem_append.1 hj with h1 | h1
      · exact hn j h1
      · obtain rfl : j = i := by simpa using h1
        exact hi.2)
    refine ⟨h1, h2, h3, by rw [h4]; simp; omega, (List.prefix_append _ _).trans h5⟩
theorem frs_compl {C : List Nat → Bool} {n : Nat} : ∀ (m : Nat) (l e : List Nat), (l ++ e).Pairwise (· < ·) → (∀ i ∈ l ++ e, i < n) → e.length = m → C (l ++ e) = true →
    ∃ r, frs C n m l = some r ∧ ¬ Lx (l ++ e) r
  | 0, l, e, hp, hn, he, hC => by
    obtain rfl : e = [] := List.length_eq_zero_iff.1 he
    rw [List.append_nil] at hC ⊢
    refine ⟨l, by rw [frs, if_pos hC], ?_⟩
    rintro ⟨q, p, x, h1, h2, h3, _⟩
    rw [h1] at h2; cases h2; omega
  | m + 1, l, e, hp, hn, he, hC => by
    match e, he with
    | i :: e', he =>
      have e1 : l ++ i :: e' = (l ++ [i]) ++ e' := by simp
      obtain ⟨r', hr', hx'⟩ := frs_compl m (l ++ [i]) e' (by rw [← e1]; exact hp) (by rw [← e1]; exact hn) (by simpa using he) (by rw [← e1]; exact hC)
      have hfi : frm l ≤ i := by
        refine frm_le ?_
        rw [e1, List.pairwise_append] at hp
        exact hp.1
      have hin : i < n := hn i (by simp)
      have hl : l.Pairwise (· < ·) := by rw [List.pairwise_append] at hp; exact hp.1
      have hln : ∀ j ∈ l, j < n := fun j hj => hn j (by simp [hj])
      cases hf : ((List.range n).drop (frm l)).findSome? fun i => frs C n m (l ++ [i]) with
      | none =>
        rw [List.findSome?_eq_none_iff] at hf
        have := hf i (mem_drop.2 ⟨hfi, hin⟩)
        rw [hr'] at this; cases this
      | some r =>
        refine ⟨r, by rw [frs, hf], ?_⟩
        rw [List.findSome?_eq_some_iff] at hf
        obtain ⟨l1, a, l2, hd, hfa, hnone⟩ := hf
        have ha : frm l ≤ a ∧ a < n := mem_drop.1 (by rw [hd]; simp)
        have hai : a = i ∨ a < i := by
          have hm : i ∈ l1 ++ a :: l2 := by rw [← hd]; exact mem_drop.2 ⟨hfi, hin⟩
          rcases List.mem_append.1 hm with h1 | h1
          · have := hnone i h1; rw [hr'] at this; cases this
          · rcases List.mem_cons.1 h1 with h2 | h2
            · exact .inl h2.symm
            · right
              have hpw : (l1 ++ a :: l2).Pairwise (· < ·) := by
                rw [← hd]
                exact List.Pairwise.sublist (List.drop_sublist _ _) List.pairwise_lt_range
              rw [List.pairwise_append, List.pairwise_cons] at hpw
              exact hpw.2.1.1 i h2
        rcases hai with rfl | hai
        · rw [hr'] at hfa; cases hfa
          rw [e1]; exact hx'
        · obtain ⟨_, _, _, _, ⟨tl, htl⟩⟩ := frs_spec m _ r hfa (frm_inc hl ha.1) (fun j hj => by
            rcases List.mem_append.1 hj with h1 | h1
            · exact hln j h1
            · obtain rfl : j = a := by simpa using h1
              exact ha.2)
          have hr1 : ∀ j, j < l.length → r[j]? = l[j]? := fun j hj => by
            rw [← htl, List.append_assoc, List.getElem?_append_left hj]
          have hr2 : r[l.length]? = some a := by rw [← htl, List.append_assoc, List.getElem?_append_right (Nat.le_refl _)]; simp
          have he1 : ∀ j, j < l.length → (l ++ i :: e')[j]? = l[j]? := fun j hj => List.getElem?_append_left hj
          have he2 : (l ++ i :: e')[l.length]? = some i := by rw [List.getElem?_append_right (Nat.le_refl _)]; simp
          rintro ⟨q, p, x, h1, h2, h3, h4⟩
          rcases Nat.lt_trichotomy q l.length with h | h | h
          · rw [he1 q h] at h1; rw [hr1 q h, h1] at h2; cases h2; omega
          · subst h; rw [he2] at h1; rw [hr2] at h2; cases h1; cases h2; omega
          · have := h4 l.length h
            rw [he2, hr2] at this
            cases this; omega

/-- the walk up to p, and what comes behind -/
theorem els_behind {m p n : Nat} (h : p ≤ n) : ∃ e, els m n = els m p ++ e ∧ (∀ x ∈ e, p ≤ x ∧ m.testBit x = true) ∧ (p < n → m.testBit p = true → e.head? = some p) := by
  obtain ⟨d, rfl⟩ := Nat.exists_eq_add_of_le h
  refine ⟨((List.range d).map fun i => p + i).filter fun i => m.testBit i, ?_, ?_, ?_⟩
  · unfold els
    rw [List.range_add, List.filter_append]
  · intro x hx
    rw [List.mem_filter, List.mem_map] at hx
    obtain ⟨⟨i, _, rfl⟩, h2⟩ := hx
    exact ⟨by omega, h2⟩
  · intro h1 h2
    obtain ⟨d', rfl⟩ : ∃ d', d = d' + 1 := ⟨d - 1, by omega⟩
    rw [List.range_succ_eq_map, List.map_cons, Nat.add_zero, List.filter_cons_of_pos (p := fun i => m.testBit i) h2]
    rfl
theorem lx_of_ahd {b t n : Nat} (hb : b < 2 ^ n) (h : ahd b t) (hl : (els b n).length = (els t n).length) : Lx (els b n) (els t n) := by
  obtain ⟨p, h1, h2, h3⟩ := h
  have hp : p < n := by
    apply Nat.lt_of_not_le
    intro hle
    rw [Nat.testBit_lt_two_pow (Nat.lt_of_lt_of_le hb (Nat.pow_le_pow_right (by omega) hle))] at h1
    cases h1
  have hpre : els b p = els t p := by
    unfold els
    refine List.filter_congr fun i hi => ?_
    rw [h3 i (by simpa using hi)]
  obtain ⟨e, he, he1, he2⟩ := els_behind (m := b) (Nat.le_of_lt hp)
  obtain ⟨f, hf, hf1, _⟩ := els_behind (m := t) (Nat.le_of_lt hp)
  have he2 := he2 hp h1
  rw [he, hf, hpre] at hl ⊢
  have hlen : e.length = f.length := by simpa using hl
  match e, f, hlen, he2, hf1 with
  | a :: e, x :: f, _, he2, hf1 =>
    obtain rfl : a = p := by simpa using he2
    refine ⟨(els t a).length, a, x, by rw [List.getElem?_append_right (Nat.le_refl _)]; simp, by rw [List.getElem?_append_right (Nat.le_refl _)]; simp, ?_, fun j hj => by rw [List.getElem?_append_left hj, List.getElem?_append_left hj]⟩
    obtain ⟨h4, h5⟩ := hf1 x (by simp)
    rcases Nat.lt_or_ge a x with h6 | h6
    · exact h6
    · obtain rfl : x = a := by omega
      rw [h2] at h5; cases h5
/-- the first cover of the fewest indexes -/
def fcv (C : List Nat → Bool) (n : Nat) : Option (List Nat) := (List.range (n + 1)).findSome? fun k => frs C n k []
theorem els_full (n : Nat) : els (2 ^ n - 1) n = List.range n := by
  unfold els
  rw [List.filter_eq_self]
  intro i hi
  rw [Nat.testBit_two_pow_sub_one]
  simpa using hi
theorem fcv_none {C : List Nat → Bool} {n : Nat} (hall : ∀ l : List Nat, l.Pairwise (· < ·) → (∀ i ∈ l, i < n) → C l = false) : fcv C n = none := by
  unfold fcv
  rw [List.findSome?_eq_none_iff]
  intro k _
  cases e : frs C n k [] with
  | none => rfl
  | some r =>
    obtain ⟨h1, h2, h3, _⟩ := frs_spec k [] r e (by simp) (by simp)
    rw [hall r h1 h2] at h3; cases h3
theorem fcv_some {C : List Nat → Bool} {n : Nat} (hn : n ≤ 60) (hall : C (List.range n) = true) :
    fcv C n = some (els (fwk (fun k => C (els k n)) (2 ^ n - 1) (2 ^ n - 1)) n) := by
  have h2n := Nat.two_pow_pos n
  have h60 : 2 ^ n ≤ 2 ^ 60 := Nat.pow_le_pow_right (by omega) hn
  have hbl := fwk_le (fun k => C (els k n)) (2 ^ n - 1) (2 ^ n - 1) (Nat.le_refl _)
  have hbC := fwk_C (C := fun k => C (els k n)) (all := 2 ^ n - 1) (by show C (els (2 ^ n - 1) n) = true; rw [els_full]; exact hall) (2 ^ n - 1)
  have hbm := fwk_min (C := fun k => C (els k n)) (all := 2 ^ n - 1) (by omega) (2 ^ n - 1) (Nat.le_refl _)
  generalize fwk (fun k => C (els k n)) (2 ^ n - 1) (2 ^ n - 1) = b at *
  have hcl : ∀ m, m < 2 ^ n → cnt m = (els m n).length := fun m hm => by unfold cnt; rw [els_lt hm (by omega)]
  have comp : ∀ m, m < 2 ^ n → C (els m n) = true → ∃ r, frs C n (cnt m) [] = some r ∧ ¬ Lx (els m n) r := fun m hm hC => by
    have := frs_compl (C := C) (n := n) (cnt m) [] (els m n) (by simpa using els_inc m n) (fun i hi => (mem_els.1 (by simpa using hi)).1) (hcl m hm).symm (by simpa using hC)
    simpa using this
  obtain ⟨rb, hrb, hxb⟩ := comp b (by omega) hbC
  cases hc : fcv C n with
  | none =>
    unfold fcv at hc
    rw [List.findSome?_eq_none_iff] at hc
    have := hc (cnt b) (by rw [List.mem_range, hcl b (by omega)]; have := els_len b n; omega)
    rw [hrb] at this; cases this
  | some r =>
    unfold fcv at hc
    rw [List.findSome?_eq_some_iff] at hc
    obtain ⟨l1, k, l2, hd, hfk, hnone⟩ := hc
    obtain ⟨h1, h2, h3, h4, _⟩ := frs_spec k [] r hfk (by simp) (by simp)
    have ht := els_mkl h1 h2
    have htl := mkl_lt h2
    have hkt : cnt (mkl r) = k := by rw [hcl _ htl, ht, h4]; simp
    congr 1
    rw [← ht]
    congr 1
    apply Decidable.byContradiction
    intro hne
    rcases prec_total (s := mkl r) (t := b) (by omega) (by omega) hne with h | h
    · rw [hbm (mkl r) (by omega) (by show C (els (mkl r) n) = true; rw [ht]; exact h3)] at h
      cases h
    · rcases (prec_iff (by omega) (by omega)).1 h with h | ⟨h, ha⟩
      · have hm : cnt b ∈ l1 := by
          have hm : cnt b ∈ l1 ++ k :: l2 := by rw [← hd, List.mem_range, hcl b (by omega)]; have := els_len b n; omega
          have hpw : (l1 ++ k :: l2).Pairwise (· < ·) := by rw [← hd]; exact List.pairwise_lt_range
          rw [List.pairwise_append, List.pairwise_cons] at hpw
          rcases List.mem_append.1 hm with h5 | h5
          · exact h5
          · rcases List.mem_cons.1 h5 with h6 | h6
            · omega
            · have := hpw.2.1.1 _ h6; omega
        have := hnone _ hm
        rw [hrb] at this; cases this
      · rw [h, hkt, hfk] at hrb
        cases hrb
        refine hxb ?_
        have := lx_of_ahd (n := n) (by omega) ha (by rw [← hcl b (by omega), ← hcl _ htl, h])
        rwa [ht] at this
end Go.Proofs.YtghbipipehglfaaDoor.Pl
