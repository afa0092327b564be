/- Plain geometry: what the hull of a sorted list of places is; the hull is one list alone. It imports nothing of the program. -/
import Derived.Test.YtflkhjicgojcbaaH8
namespace Go.Proofs.Ytflkhjicgojcbaa.Geo

theorem popK_ne (p : XY) : ∀ s : List XY, s ≠ [] → popK p s ≠ []
  | [], h => h
  | [_], h => h
  | b :: a :: r, _ => by
    rw [popK]
    split
    · exact popK_ne p (a :: r) (by simp)
    · simp
theorem chainL_ne {l : List XY} (h : l ≠ []) : chainL l ≠ [] := by
  obtain ⟨l', p, rfl⟩ : ∃ l' p, l = l' ++ [p] := ⟨l.dropLast, l.getLast h, (List.dropLast_concat_getLast h).symm⟩
  rw [chainL_snoc]; unfold push; simp
theorem chainL_len {l : List XY} (h : 2 ≤ l.length) : 2 ≤ (chainL l).length := by
  have hne : l ≠ [] := by intro e; rw [e] at h; simp at h
  obtain ⟨l', p, rfl⟩ : ∃ l' p, l = l' ++ [p] := ⟨l.dropLast, l.getLast hne, (List.dropLast_concat_getLast hne).symm⟩
  rw [chainL_snoc]; unfold push
  have : l' ≠ [] := by intro e; rw [e] at h; simp at h
  have := List.length_pos_iff.2 (popK_ne p _ (chainL_ne this))
  simp; omega
theorem X_head {l : List XY} {p : XY} (h : l.head? = some p) : X l 0 = p := by
  cases l with
  | nil => simp at h
  | cons a r => simpa [X] using h
theorem X_last {l : List XY} {p : XY} (h : l.getLast? = some p) : X l (l.length - 1) = p := by
  rw [List.getLast?_eq_getElem?] at h
  unfold X; rw [h]; rfl
theorem head_X {l : List XY} (h : l ≠ []) : l.head? = some (X l 0) := by
  cases l with
  | nil => exact absurd rfl h
  | cons a r => simp [X]
theorem last_X {l : List XY} (h : l ≠ []) : l.getLast? = some (X l (l.length - 1)) := by
  rw [List.getLast?_eq_getElem?]
  have := List.length_pos_iff.2 h
  unfold X
  rw [List.getElem?_eq_getElem (by omega)]; rfl

theorem up_chain {s : List XY} (hr : Rise s) (h2 : 2 ≤ s.length) : ((∃ m, chainL s = [m, m] ∧ ∀ x, x ∈ s → x = m) ∨ Chain s (chainL s).reverse) ∧
    X (chainL s).reverse 0 = X s 0 ∧ X (chainL s).reverse ((chainL s).reverse.length - 1) = X s (s.length - 1) ∧ (∀ x, x ∈ (chainL s).reverse → x ∈ s) := by
  have hne : s ≠ [] := by intro e; rw [e] at h2; simp at h2
  obtain ⟨h1, h3, h4, h5⟩ := chain_good s hne hr
  refine ⟨?_, ?_, ?_, fun x hx => List.mem_reverse.1 (h5 x (List.mem_reverse.1 hx))⟩
  · rcases h1 with h | ⟨m, h, k⟩
    · right
      have := chain_of h (chainL_len h2)
      exact ⟨this.len, this.lo, fun i hi x hx => this.hold i hi x (List.mem_reverse.2 hx), this.turn⟩
    · exact .inl ⟨m, h, fun x hx => k x (List.mem_reverse.2 hx)⟩
  · apply X_head
    rw [List.head?_reverse, h4, List.getLast?_reverse]
    exact head_X hne
  · apply X_last
    rw [List.getLast?_reverse, h3, List.head?_reverse]
    exact last_X hne
theorem rise_rev {s : List XY} (hr : Rise s) : Rise (s.reverse.map neg2) := by
  unfold Rise
  rw [List.pairwise_map, List.pairwise_reverse]
  exact hr.imp fun {a b} h => by rw [low_neg2]; exact h
theorem down_chain {s : List XY} (hr : Rise s) (h2 : 2 ≤ s.length) : ((∃ m, chainL s.reverse = [m, m] ∧ ∀ x, x ∈ s → x = m) ∨ Chain (s.map neg2) ((chainL s.reverse).reverse.map neg2)) ∧
    X (chainL s.reverse).reverse 0 = X s (s.length - 1) ∧ X (chainL s.reverse).reverse ((chainL s.reverse).reverse.length - 1) = X s 0 ∧ (∀ x, x ∈ (chainL s.reverse).reverse → x ∈ s) := by
  have hl : (s.reverse.map neg2).length = s.length := by simp
  obtain ⟨h1, h3, h4, h5⟩ := up_chain (rise_rev hr) (by omega)
  rw [chainL_neg] at h1 h3 h4 h5
  have hc2 : 2 ≤ (chainL s.reverse).length := chainL_len (by simpa using h2)
  have er : ((chainL s.reverse).map neg2).reverse = (chainL s.reverse).reverse.map neg2 := by rw [List.map_reverse]
  rw [er] at h1 h3 h4 h5
  have inj : ∀ a b : XY, neg2 a = neg2 b → a = b := fun a b h => by rw [← neg2_neg2 a, h, neg2_neg2]
  refine ⟨?_, ?_, ?_, fun x hx => ?_⟩
  · rcases h1 with ⟨m, h, k⟩ | h
    · left
      refine ⟨neg2 m, ?_, fun x hx => ?_⟩
      · have := congrArg (List.map neg2) h
        rw [List.map_map] at this
        rw [show (neg2 ∘ neg2) = id from funext neg2_neg2, List.map_id] at this
        simpa using this
      · have := k (neg2 x) (List.mem_map_of_mem (List.mem_reverse.2 hx))
        rw [← this, neg2_neg2]
    · right
      refine ⟨h.len, h.lo, fun i hi x hx => h.hold i hi x ?_, h.turn⟩
      obtain ⟨y, hy, rfl⟩ := List.mem_map.1 hx
      exact List.mem_map_of_mem (List.mem_reverse.2 hy)
  · rw [X_map neg2 (by simp; omega), X_map neg2 (by simp; omega), X_rev (o := s) (by omega)] at h3
    have := inj _ _ h3
    rw [this]; rfl
  · have hll : ((chainL s.reverse).reverse.map neg2).length = (chainL s.reverse).reverse.length := List.length_map ..
    rw [hll, X_map neg2 (by simp; omega), hl, X_map neg2 (by simp; omega), X_rev (o := s) (by omega)] at h4
    have := inj _ _ h4
    rw [this]; congr 1; omega
  · have := h5 (neg2 x) (List.mem_map_of_mem hx)
    obtain ⟨y, hy, he⟩ := List.mem_map.1 this
    rw [← inj _ _ he]; exact List.mem_reverse.1 hy

/-- q is the hull of the places l -/
structure IsHull (l q : List XY) : Prop where
  std : Std q
  mem : ∀ p, p ∈ q → p ∈ l
  hold : ∀ p, p ∈ l → ∀ k, k < q.length → 0 ≤ cr (edge (At q) k) (sub p (X q k))
theorem two_list {l : List XY} (h : l.length = 2) : l = [X l 0, X l 1] := by
  match l, h with
  | [a, b], _ => rfl
/-- all on one line, from m to M -/
def OnLine (l : List XY) (m M : XY) : Prop := low m M ∧ m ∈ l ∧ M ∈ l ∧ ∀ x, x ∈ l → Cross m M x = 0 ∧ ¬ low x m ∧ ¬ low M x
theorem line_two {l U : List XY} {m M : XY} (h : OnLine l m M) (hU : Chain l U) (hm : ∀ x, x ∈ U → x ∈ l) : U.length = 2 := by
  refine Decidable.byContradiction fun hn => ?_
  have h2 := hU.len
  have ht := hU.turn 0 (by omega)
  have nz : sub M m ≠ (0, 0) := up_nz ((low_up m M).1 h.1)
  have hp := fun x (hx : x ∈ U) y (hy : y ∈ U) => par_zero nz (by have := (h.2.2.2 x (hm x hx)).1; rw [Cross_cr] at this; exact this) (by have := (h.2.2.2 y (hm y hy)).1; rw [Cross_cr] at this; exact this)
  have q1 := hp _ (X_mem (show 0 < U.length by omega)) _ (X_mem (show 1 < U.length by omega))
  have q2 := hp _ (X_mem (show 0 < U.length by omega)) _ (X_mem (show 2 < U.length by omega))
  have q3 := hp _ (X_mem (show 1 < U.length by omega)) _ (X_mem (show 2 < U.length by omega))
  have : Cross (X U 0) (X U (0 + 1)) (X U (0 + 2)) = cr (sub (X U 0) m) (sub (X U 1) m) - cr (sub (X U 0) m) (sub (X U 2) m) + cr (sub (X U 1) m) (sub (X U 2) m) := by
    unfold Cross cr sub; grind
  omega
theorem rise_ends {s : List XY} (hr : Rise s) : ∀ x, x ∈ s → ¬ low x (X s 0) ∧ ¬ low (X s (s.length - 1)) x := by
  intro x hx
  obtain ⟨i, hi, rfl⟩ := mem_X hx
  have hg : ∀ a b, a < b → b < s.length → ¬ low (X s b) (X s a) := fun a b hab hb => by
    have := List.pairwise_iff_getElem.1 hr a b (by omega) hb hab
    unfold X
    rw [List.getElem?_eq_getElem hb, List.getElem?_eq_getElem (by omega)]
    exact this
  constructor
  · by_cases h : i = 0
    · subst h; exact low_irrefl _
    · exact hg 0 i (by omega) hi
  · by_cases h : i = s.length - 1
    · rw [← h]; exact low_irrefl _
    · exact hg i (s.length - 1) (by omega) (by omega)
theorem hull_cases {s : List XY} (hr : Rise s) (h2 : 2 ≤ s.length) : ((∀ x, x ∈ s → x = X s 0) ∧ hullP s = [X s 0, X s 0]) ∨ (∃ m M, OnLine s m M ∧ hullP s = [m, M]) ∨ IsHull s (hullP s) := by
  obtain ⟨u1, u2, u3, u4⟩ := up_chain hr h2
  obtain ⟨d1, d2, d3, d4⟩ := down_chain hr h2
  have ends := rise_ends hr
  have m0 : X s 0 ∈ s := X_mem (by omega)
  have ml : X s (s.length - 1) ∈ s := X_mem (by omega)
  by_cases heq : X s 0 = X s (s.length - 1)
  · left
    have hall : ∀ x, x ∈ s → x = X s 0 := fun x hx => by
      have := ends x hx
      rw [← heq] at this
      rcases low_total x (X s 0) with h | h | h
      · exact absurd h this.1
      · exact h
      · exact absurd h this.2
    refine ⟨hall, ?_⟩
    have hu : ∀ V, Chain s V → (∀ x, x ∈ V → x ∈ s) → False := fun V hV hm => by
      have := hV.lo 0 (by have := hV.len; omega)
      rw [hall _ (hm _ (X_mem (by have := hV.len; omega))), hall _ (hm _ (X_mem (by have := hV.len; omega)))] at this
      exact low_irrefl _ this
    rcases u1 with ⟨m, e, k⟩ | h
    · rcases d1 with ⟨m', e', k'⟩ | h
      · unfold hullP
        rw [e, e', k _ m0] ; rw [← k _ m0, k' _ m0]; simp
      · exfalso
        have := h.lo 0 (by have := h.len; omega)
        have hl := h.len
        rw [List.length_map] at hl
        rw [X_map neg2 (by omega), X_map neg2 (by omega), low_neg2, hall _ (d4 _ (X_mem (by omega))), hall _ (d4 _ (X_mem (by omega)))] at this
        exact low_irrefl _ this
    · exact (hu _ h u4).elim
  · right
    have hlow : low (X s 0) (X s (s.length - 1)) := by
      rcases low_total (X s 0) (X s (s.length - 1)) with h | h | h
      · exact h
      · exact absurd h heq
      · exact absurd h (ends _ ml).1
    have u1' : Chain s (chainL s).reverse := by
      rcases u1 with ⟨m, e, k⟩ | h
      · exact absurd ((k _ m0).trans (k _ ml).symm) heq
      · exact h
    have d1' : Chain (s.map neg2) ((chainL s.reverse).reverse.map neg2) := by
      rcases d1 with ⟨m, e, k⟩ | h
      · exact absurd ((k _ m0).trans (k _ ml).symm) heq
      · exact h
    by_cases hc : ∃ x, x ∈ s ∧ Cross (X s 0) (X s (s.length - 1)) x ≠ 0
    · right
      obtain ⟨x, hx, hx0⟩ := hc
      have := two_chains u1' d1' u4 d4 (by rw [u3, d2]) (by rw [d3, u2]) ⟨x, hx, by rw [u2, d2]; exact hx0⟩ (fun x hx => by rw [u2]; exact (ends x hx).1)
      refine ⟨this.1, fun p hp => ?_, this.2⟩
      rcases List.mem_append.1 hp with h | h
      · exact u4 _ ((List.dropLast_sublist _).subset h)
      · exact d4 _ ((List.dropLast_sublist _).subset h)
    · left
      have hon : OnLine s (X s 0) (X s (s.length - 1)) := ⟨hlow, m0, ml, fun x hx => ⟨Decidable.byContradiction fun h => hc ⟨x, hx, h⟩, ends x hx⟩⟩
      refine ⟨_, _, hon, ?_⟩
      have k1 := line_two hon u1' u4
      have hd2 : (chainL s.reverse).reverse.length = 2 := by
        have hon' : OnLine (s.map neg2) (neg2 (X s (s.length - 1))) (neg2 (X s 0)) := ⟨(low_neg2 _ _).2 hlow, List.mem_map_of_mem ml, List.mem_map_of_mem m0, fun x hx => by
          obtain ⟨y, hy, rfl⟩ := List.mem_map.1 hx
          obtain ⟨z1, z2, z3⟩ := hon.2.2.2 y hy
          refine ⟨?_, fun h => z3 ((low_neg2 _ _).1 h), fun h => z2 ((low_neg2 _ _).1 h)⟩
          rw [Cross_neg2]
          have : Cross (X s (s.length - 1)) (X s 0) y = - Cross (X s 0) (X s (s.length - 1)) y := Cross_swap _ _ _
          omega⟩
        have := line_two hon' d1' (fun x hx => by
          obtain ⟨y, hy, rfl⟩ := List.mem_map.1 hx
          exact List.mem_map_of_mem (d4 y hy))
        rwa [List.length_map] at this
      unfold hullP
      rw [two_list k1, two_list hd2, u2, d2]; rfl

theorem sq_nn (x : Int) : 0 ≤ x * x := by
  rcases Int.le_total 0 x with h | h
  · exact Int.mul_nonneg h h
  · exact Int.mul_nonneg_of_nonpos_of_nonpos h h
theorem dot_pos {y z : XY} (hy : up y) (hz : up z) (hc : cr y z = 0) : 0 < y.1 * z.1 + y.2 * z.2 := by
  obtain ⟨a, b⟩ := y
  obtain ⟨c, d⟩ := z
  unfold up cr at *
  simp only at *
  rcases hy with hb | ⟨rfl, ha⟩
  · rcases hz with hd | ⟨rfl, h1⟩
    · have h1 : 0 < b * d := Int.mul_pos hb hd
      have h2 : (a * c) * (b * d) = (a * d) * (a * d) := by
        have : a * d = b * c := by omega
        grind
      have h3 := sq_nn (a * d)
      have h4 : 0 ≤ a * c := by
        refine Decidable.byContradiction fun hn => ?_
        have := Int.mul_neg_of_neg_of_pos (show a * c < 0 by omega) h1
        omega
      omega
    · have := Int.mul_pos hb h1
      simp at hc
      omega
  · rcases hz with hd | ⟨rfl, h1⟩
    · have := Int.mul_pos ha hd
      simp at hc
      omega
    · have := Int.mul_pos ha h1
      simp; omega
theorem sum_lt {y z : XY} (hy : up y) (hz : up z) (hc : cr y z = 0) : y.1 * y.1 + y.2 * y.2 < (y.1 + z.1) * (y.1 + z.1) + (y.2 + z.2) * (y.2 + z.2) := by
  have := dot_pos hy hz hc
  have h1 := sq_nn z.1
  have h2 := sq_nn z.2
  have : (y.1 + z.1) * (y.1 + z.1) + (y.2 + z.2) * (y.2 + z.2) = y.1 * y.1 + y.2 * y.2 + 2 * (y.1 * z.1 + y.2 * z.2) + z.1 * z.1 + z.2 * z.2 := by grind
  omega

/-- what the document's walk around l goes by -/
structure WrapF (l q : List XY) : Prop where
  two : 2 ≤ q.length
  len : q.length ≤ l.length
  mem : ∀ p, p ∈ q → p ∈ l
  pick : ∀ i, i < q.length → pickK l (X q i) l.length = At q (i + 1)
  first : X (canon l) 0 = X q 0
  df : ∀ i, 0 < i → i < q.length → X q i ≠ X q 0
  st : ∀ i, i < q.length → At q (i + 1) ≠ X q i
theorem dist_len : ∀ (q l : List XY), q.Nodup → (∀ p, p ∈ q → p ∈ l) → q.length ≤ l.length
  | [], _, _, _ => Nat.zero_le _
  | a :: q, l, hn, hm => by
    have ha := hm a (List.mem_cons_self ..)
    have hn' := List.nodup_cons.1 hn
    have := dist_len q (l.erase a) hn'.2 (fun p hp => (List.mem_erase_of_ne (by rintro rfl; exact hn'.1 hp)).2 (hm p (List.mem_cons_of_mem _ hp)))
    rw [List.length_erase_of_mem ha] at this
    have := List.length_pos_of_mem ha
    simp; omega
theorem dist_nodup {q : List XY} (h : Dist q) : q.Nodup := by
  unfold List.Nodup
  rw [List.pairwise_iff_getElem]
  intro i j hi hj hij he
  have := h i j hi hj (by unfold X; rw [List.getElem?_eq_getElem hi, List.getElem?_eq_getElem hj, he])
  omega
theorem IsHull.wrap {l q : List XY} (h : IsHull l q) (hlo : ∀ p, p ∈ l → ¬ low p (X q 0)) : WrapF l q := by
  have hs := h.std
  have hd := hs.rg.dist hs.h3
  have h3 := hs.h3
  refine ⟨by omega, dist_len _ _ (dist_nodup hd) h.mem, h.mem, fun i hi => pick_next hs h.mem h.hold hi, low_first hlo (h.mem _ (X_mem hs.pos)), fun i h0 hi he => ?_, fun i hi he => ?_⟩
  · have := hd i 0 hi hs.pos he
    omega
  · rw [← At_mod, At_lt _ (Nat.mod_lt _ hs.pos)] at he
    have := hd _ i (Nat.mod_lt _ hs.pos) hi he
    by_cases hc : i + 1 = q.length
    · rw [hc, Nat.mod_self] at this; omega
    · rw [Nat.mod_eq_of_lt (by omega)] at this; omega
/-- the lowest corner of a hull is the lowest place -/
theorem IsHull.lo {l q : List XY} (h : IsHull l q) : ∀ p, p ∈ l → ¬ low p (X q 0) := by
  intro p hp hl
  have hs := h.std
  have h3 := hs.h3
  have a0 := h.hold p hp 0 hs.pos
  have a1 := h.hold p hp (q.length - 1) (by omega)
  have u0 := hs.up0
  have ul := hs.upn
  have e : edge (At q) (q.length - 1) = neg (sub (X q (q.length - 1)) (X q 0)) := by
    unfold edge
    rw [show q.length - 1 + 1 = 0 + q.length by omega, At_per, At_lt q hs.pos, At_lt q (i := q.length - 1) (by omega)]
    unfold sub neg; ext <;> simp <;> omega
  have hll := hs.low0 (j := q.length - 1) (by omega) (by omega)
  rw [low_up] at hl hll
  have hloc := hs.hl (q.length - 1)
  have ep := hs.per 0
  rw [Nat.zero_add] at ep
  rw [show q.length - 1 + 1 = q.length by omega, ep] at hloc
  -- e0 up, w = X0 - p up, g = X_last - X0 up; cr e0 (p - X0) >= 0: cr w e0 >= 0 ; last: cr (-g) (p - Xl) = cr(-g)(p - X0) >= 0: cr g w >= 0 ; cr (-g) e0 > 0: cr e0 g > 0
  have b0 : 0 ≤ cr (sub (X q 0) p) (edge (At q) 0) := by
    have : cr (sub (X q 0) p) (edge (At q) 0) = cr (edge (At q) 0) (sub p (X q 0)) := by unfold cr sub; grind
    omega
  have b1 : 0 ≤ cr (sub (X q (q.length - 1)) (X q 0)) (sub (X q 0) p) := by
    rw [e] at a1
    have : cr (sub (X q (q.length - 1)) (X q 0)) (sub (X q 0) p) = cr (neg (sub (X q (q.length - 1)) (X q 0))) (sub p (X q (q.length - 1))) := by unfold cr sub neg; grind
    omega
  have b2 : 0 < cr (edge (At q) 0) (sub (X q (q.length - 1)) (X q 0)) := by
    rw [e] at hloc
    have : cr (edge (At q) 0) (sub (X q (q.length - 1)) (X q 0)) = cr (neg (sub (X q (q.length - 1)) (X q 0))) (edge (At q) 0) := by unfold cr sub neg; grind
    omega
  have := up_ge hl hll u0
  have c := hp_same (up_nz hl) (up_nz u0) (up_nz hll) ⟨fun _ => u0, fun _ => hl⟩ ⟨fun _ => hll, fun _ => u0⟩ b0 b2
  have := cr_flip (sub (X q 0) p) (sub (X q (q.length - 1)) (X q 0))
  omega
theorem OnLine.wrap {l : List XY} {m M : XY} (h : OnLine l m M) : WrapF l [m, M] := by
  obtain ⟨h1, h2, h3, h4⟩ := h
  have hne : M ≠ m := by rintro rfl; exact low_irrefl _ h1
  have between : ∀ p, p ∈ l → p ≠ m → p ≠ M → up (sub p m) ∧ up (sub M p) ∧ cr (sub p m) (sub M p) = 0 := fun p hp n1 n2 => by
    obtain ⟨c, l1, l2⟩ := h4 p hp
    refine ⟨?_, ?_, ?_⟩
    · rw [← low_up]
      rcases low_total m p with k | k | k
      · exact k
      · exact absurd k.symm n1
      · exact absurd k l1
    · rw [← low_up]
      rcases low_total p M with k | k | k
      · exact k
      · exact absurd k n2
      · exact absurd k l2
    · have : cr (sub p m) (sub M p) = - Cross m M p := by unfold Cross cr sub; grind
      omega
  have a0 : ∀ k, At [m, M] k = if k % 2 = 0 then m else M := fun k => by
    have h2 := Nat.mod_lt k (show 0 < 2 by omega)
    have : k % 2 = 0 ∨ k % 2 = 1 := by omega
    unfold At
    simp only [List.length_cons, List.length_nil, Nat.zero_add, Nat.reduceAdd]
    rcases this with e | e <;> rw [e] <;> simp
  refine ⟨by simp, ?_, fun p hp => ?_, fun i hi => ?_, ?_, fun i h0 hi => ?_, fun i hi => ?_⟩
  · refine dist_len [m, M] l ?_ (fun p hp => ?_)
    · simp; exact fun e => hne e.symm
    · simp at hp; rcases hp with rfl | rfl <;> assumption
  · simp at hp; rcases hp with rfl | rfl <;> assumption
  · have hi' : i = 0 ∨ i = 1 := by simp at hi; omega
    rcases hi' with rfl | rfl
    · rw [a0]
      refine pick_hull h3 hne (fun p hp n1 n2 => .inr ⟨(h4 p hp).1, ?_⟩)
      obtain ⟨b1, b2, b3⟩ := between p hp n1 n2
      have := sum_lt b1 b2 b3
      unfold sqd
      unfold sub at this
      simp only at this
      rw [show p.1 - m.1 + (M.1 - p.1) = M.1 - m.1 by omega, show p.2 - m.2 + (M.2 - p.2) = M.2 - m.2 by omega] at this
      exact this
    · rw [a0]
      refine pick_hull (b := m) h2 hne.symm (fun p hp n1 n2 => .inr ⟨?_, ?_⟩)
      · have : Cross M m p = - Cross m M p := Cross_swap _ _ _
        have := (h4 p hp).1
        show Cross M m p = 0
        omega
      · obtain ⟨b1, b2, b3⟩ := between p hp n2 n1
        have b3' : cr (sub M p) (sub p m) = 0 := by rw [cr_flip]; omega
        have := sum_lt b2 b1 b3'
        show sqd M p < sqd M m
        unfold sqd
        unfold sub at this
        simp only at this
        rw [show M.1 - p.1 + (p.1 - m.1) = M.1 - m.1 by omega, show M.2 - p.2 + (p.2 - m.2) = M.2 - m.2 by omega] at this
        grind
  · exact low_first (q := [m, M]) (fun p hp => (h4 p hp).2.1) h2
  · have hi' : i = 1 := by simp at hi; omega
    subst hi'
    exact hne
  · have hi' : i = 0 ∨ i = 1 := by simp at hi; omega
    rcases hi' with rfl | rfl
    · rw [a0]; exact hne
    · rw [a0]; exact hne.symm
/-- there is one hull -/
theorem hull_unique {l q q' : List XY} (h : IsHull l q) (h' : IsHull l q') : q = q' := by
  have w := h.wrap h.lo
  have w' := h'.wrap h'.lo
  have e0 : X q 0 = X q' 0 := w.first.symm.trans w'.first
  have key : ∀ i, i < q.length → i < q'.length → X q i = X q' i := by
    intro i
    induction i with
    | zero => intro _ _; exact e0
    | succ i ih =>
      intro h1 h2
      have e := ih (by omega) (by omega)
      have a := w.pick i (by omega)
      have b := w'.pick i (by omega)
      rw [At_lt q h1] at a
      rw [At_lt q' h2] at b
      rw [← a, ← b, e]
  have two : 2 ≤ q.length := w.two
  have two' : 2 ≤ q'.length := w'.two
  have hl : ∀ a b : List XY, WrapF l a → WrapF l b → (∀ i, i < a.length → i < b.length → X a i = X b i) → ¬ a.length < b.length := by
    intro a b wa wb hk hlt
    have h2 := wa.two
    have p1 := wa.pick (a.length - 1) (by omega)
    have p2 := wb.pick (a.length - 1) (by omega)
    rw [hk (a.length - 1) (by omega) (by omega)] at p1
    rw [show a.length - 1 + 1 = 0 + a.length by omega, At_per, At_lt a (by omega), hk 0 (by omega) (by omega)] at p1
    rw [show a.length - 1 + 1 = a.length by omega, At_lt b hlt] at p2
    exact wb.df a.length (by omega) hlt (p2.symm.trans p1)
  have n1 := hl q q' w w' key
  have n2 := hl q' q w' w (fun i a b => (key i b a).symm)
  exact list_ext (by omega) (fun i hi => key i hi (by omega))
theorem hull_self {q : List XY} (h : Std q) : IsHull q q := ⟨h, fun _ hp => hp, fun p hp k hk => by
  have := h.rg.left h.h3 k hp
  rwa [At_lt q hk] at this⟩
theorem IsHull.congr {l l' q : List XY} (h : IsHull l q) (e : ∀ x, x ∈ l ↔ x ∈ l') : IsHull l' q := ⟨h.std, fun p hp => (e p).1 (h.mem p hp), fun p hp => h.hold p ((e p).2 hp)⟩
theorem OnLine.congr {l l' : List XY} {m M : XY} (h : OnLine l m M) (e : ∀ x, x ∈ l ↔ x ∈ l') : OnLine l' m M := ⟨h.1, (e _).1 h.2.1, (e _).1 h.2.2.1, fun x hx => h.2.2.2 x ((e x).2 hx)⟩
end Go.Proofs.Ytflkhjicgojcbaa.Geo
