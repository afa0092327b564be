/- Plain geometry: the two chains of a hull make an outline that holds all places. It imports nothing of the program. -/
import Derived.Test.YtflkhjicgojcbaaH7
namespace Go.Proofs.Ytflkhjicgojcbaa.Geo

def chainL (l : List XY) : List XY := l.foldl push []
theorem chainL_snoc (l : List XY) (p : XY) : chainL (l ++ [p]) = push (chainL l) p := by
  unfold chainL; rw [List.foldl_append]; rfl
def Rise (l : List XY) : Prop := l.Pairwise fun a b => ¬ low b a
theorem chain_good : ∀ (l : List XY), l ≠ [] → Rise l → Good l.reverse (chainL l) := by
  intro l
  induction hn : l.length generalizing l with
  | zero => intro h; exact absurd (List.eq_nil_of_length_eq_zero hn) h
  | succ n ih =>
    intro _ hr
    obtain ⟨l', p, rfl⟩ : ∃ l' p, l = l' ++ [p] := by
      have hne : l ≠ [] := by intro e; rw [e] at hn; simp at hn
      exact ⟨l.dropLast, l.getLast hne, (List.dropLast_concat_getLast hne).symm⟩
    rw [chainL_snoc, List.reverse_append]
    have hr' : Rise l' := (List.pairwise_append.1 hr).1
    have hx : ∀ x, x ∈ l' → ¬ low p x := fun x hx => (List.pairwise_append.1 hr).2.2 x hx p (List.mem_singleton.2 rfl)
    by_cases he : l' = []
    · subst he
      refine ⟨.inl trivial, rfl, rfl, fun y hy => ?_⟩
      simpa [chainL, push, popK] using hy
    · have hg := ih l' (by simp at hn; omega) he hr'
      obtain ⟨l2, b, rfl⟩ : ∃ l2 b, l' = l2 ++ [b] := ⟨l'.dropLast, l'.getLast he, (List.dropLast_concat_getLast he).symm⟩
      have hb : (l2 ++ [b]).reverse.head? = some b := by simp
      refine good_push hb (fun x hx' => hx x (List.mem_reverse.1 hx')) (fun x hx' => ?_) (fun m hm x hx' => ?_) hg
      · have hx'' := List.mem_reverse.1 hx'
        rcases List.mem_append.1 hx'' with h | h
        · exact (List.pairwise_append.1 hr').2.2 x h b (List.mem_singleton.2 rfl)
        · rw [List.mem_singleton.1 h]; exact low_irrefl b
      · have hx'' := List.mem_reverse.1 hx'
        have hm : (l2 ++ [b]).reverse.getLast? = some m := hm
        rw [List.getLast?_reverse] at hm
        cases hl : l2 ++ [b] with
        | nil => simp at hl
        | cons a r =>
          rw [hl] at hm hx'' hr'
          obtain rfl : a = m := by simpa using hm
          rcases List.mem_cons.1 hx'' with rfl | h
          · exact low_irrefl _
          · exact (List.pairwise_cons.1 hr').1 x h

theorem chn_idx {seen : List XY} : ∀ (s : List XY), Chn seen s → ∀ i, i + 1 < s.length → low (X s (i + 1)) (X s i) ∧ (∀ x, x ∈ seen → 0 ≤ Cross (X s (i + 1)) (X s i) x) ∧ (i + 2 < s.length → 0 < Cross (X s (i + 2)) (X s (i + 1)) (X s i))
  | [], h, _, _ => h.elim
  | [_], _, i, hi => by simp at hi
  | b :: a :: r, h, i, hi => by
    obtain ⟨h1, h2, h3, h4⟩ := h
    cases i with
    | zero =>
      refine ⟨h1, h2, fun hl => ?_⟩
      cases r with
      | nil => simp at hl
      | cons z r => exact h3 z rfl
    | succ i =>
      have e : ∀ k, X (b :: a :: r) (k + 1) = X (a :: r) k := fun k => rfl
      rw [e, e, show i + 1 + 2 = i + 2 + 1 from rfl, e]
      have := chn_idx (a :: r) h4 i (by simpa using hi)
      refine ⟨this.1, this.2.1, fun hl => this.2.2 (by simpa using hl)⟩

/-- a chain in its order -/
structure Chain (seen U : List XY) : Prop where
  len : 2 ≤ U.length
  lo : ∀ i, i + 1 < U.length → low (X U i) (X U (i + 1))
  hold : ∀ i, i + 1 < U.length → ∀ x, x ∈ seen → 0 ≤ Cross (X U i) (X U (i + 1)) x
  turn : ∀ i, i + 2 < U.length → 0 < Cross (X U i) (X U (i + 1)) (X U (i + 2))
theorem chain_of {seen s : List XY} (h : Chn seen s) (h2 : 2 ≤ s.length) : Chain seen s.reverse := by
  have hl : s.reverse.length = s.length := List.length_reverse
  refine ⟨by omega, fun i hi => ?_, fun i hi => ?_, fun i hi => ?_⟩
  · rw [hl] at hi
    rw [X_rev (by omega), X_rev (by omega)]
    have := (chn_idx s h (s.length - 1 - (i + 1)) (by omega)).1
    rwa [show s.length - 1 - (i + 1) + 1 = s.length - 1 - i by omega] at this
  · rw [hl] at hi
    rw [X_rev (by omega), X_rev (by omega)]
    have := (chn_idx s h (s.length - 1 - (i + 1)) (by omega)).2.1
    rwa [show s.length - 1 - (i + 1) + 1 = s.length - 1 - i by omega] at this
  · rw [hl] at hi
    rw [X_rev (by omega), X_rev (by omega), X_rev (by omega)]
    have := (chn_idx s h (s.length - 1 - (i + 2)) (by omega)).2.2 (by omega)
    rwa [show s.length - 1 - (i + 2) + 1 = s.length - 1 - (i + 1) by omega, show s.length - 1 - (i + 2) + 2 = s.length - 1 - i by omega] at this

def neg2 (p : XY) : XY := (-p.1, -p.2)
theorem neg2_neg2 (p : XY) : neg2 (neg2 p) = p := by unfold neg2; simp
theorem Cross_neg2 (a b c : XY) : Cross (neg2 a) (neg2 b) (neg2 c) = Cross a b c := by unfold neg2 Cross; grind
theorem low_neg2 (a b : XY) : low (neg2 a) (neg2 b) ↔ low b a := by unfold low neg2; simp only; omega
theorem popK_neg (p : XY) : ∀ s : List XY, popK (neg2 p) (s.map neg2) = (popK p s).map neg2
  | [] => rfl
  | [_] => rfl
  | b :: a :: r => by
    have ih := popK_neg p (a :: r)
    simp only [List.map_cons] at ih ⊢
    rw [popK, popK, Cross_neg2]
    split
    · exact ih
    · rfl
theorem chainL_neg (l : List XY) : chainL (l.map neg2) = (chainL l).map neg2 := by
  have : ∀ s : List XY, (l.map neg2).foldl push (s.map neg2) = (l.foldl push s).map neg2 := by
    induction l with
    | nil => intro s; rfl
    | cons p l ih =>
      intro s
      simp only [List.map_cons, List.foldl_cons]
      rw [show push (s.map neg2) (neg2 p) = (push s p).map neg2 by unfold push; rw [popK_neg]; rfl]
      exact ih _
  exact this []
/-- the hull that the two chains make -/
def hullP (l : List XY) : List XY := (chainL l).reverse.dropLast ++ (chainL l.reverse).reverse.dropLast

theorem par_zero {a b c : XY} (na : a ≠ (0, 0)) (h1 : cr a b = 0) (h2 : cr a c = 0) : cr b c = 0 := by
  obtain ⟨a1, a2⟩ := a
  obtain ⟨b1, b2⟩ := b
  obtain ⟨c1, c2⟩ := c
  unfold cr at *
  simp only at *
  have e1 : a1 * (b1 * c2 - b2 * c1) = 0 := by grind
  have e2 : a2 * (b1 * c2 - b2 * c1) = 0 := by grind
  rcases Int.mul_eq_zero.1 e1 with h | h
  · rcases Int.mul_eq_zero.1 e2 with h' | h'
    · exact absurd (by rw [h, h']) na
    · exact h'
  · exact h
theorem X_app_l {a b : List XY} {i : Nat} (h : i < a.length) : X (a ++ b) i = X a i := by
  unfold X; rw [List.getElem?_append_left h]
theorem X_app_r {a b : List XY} {i : Nat} (h : a.length ≤ i) : X (a ++ b) i = X b (i - a.length) := by
  unfold X; rw [List.getElem?_append_right h]
theorem X_dropLast {a : List XY} {i : Nat} (h : i + 1 < a.length) : X a.dropLast i = X a i := by
  unfold X; rw [List.getElem?_dropLast, if_pos (by omega)]

/-- two chains, one up from m to M and one down again, that hold all places which are not all on one line: an outline -/
theorem two_chains {l U D : List XY} (hU : Chain l U) (hD : Chain (l.map neg2) (D.map neg2)) (hUl : ∀ x, x ∈ U → x ∈ l) (hDl : ∀ x, x ∈ D → x ∈ l)
    (e1 : X U (U.length - 1) = X D 0) (e2 : X D (D.length - 1) = X U 0) (hno : ∃ x, x ∈ l ∧ Cross (X U 0) (X D 0) x ≠ 0) (hlo : ∀ x, x ∈ l → ¬ low x (X U 0)) :
    Std (U.dropLast ++ D.dropLast) ∧ (∀ p, p ∈ l → ∀ k, k < (U.dropLast ++ D.dropLast).length → 0 ≤ cr (edge (At (U.dropLast ++ D.dropLast)) k) (sub p (X (U.dropLast ++ D.dropLast) k))) := by
  obtain ⟨q, hq⟩ : ∃ q, q = U.dropLast ++ D.dropLast := ⟨_, rfl⟩
  rw [← hq]
  obtain ⟨a, ha⟩ : ∃ a, U.length = a + 1 := ⟨U.length - 1, by have := hU.len; omega⟩
  have hdl : (D.map neg2).length = D.length := List.length_map ..
  obtain ⟨b, hb⟩ : ∃ b, D.length = b + 1 := ⟨D.length - 1, by have := hD.len; omega⟩
  have ha1 : 1 ≤ a := by have := hU.len; omega
  have hb1 : 1 ≤ b := by have := hD.len; omega
  have hlen : q.length = a + b := by rw [hq]; simp; omega
  rw [ha, Nat.add_sub_cancel] at e1
  rw [hb, Nat.add_sub_cancel] at e2
  have dlo : ∀ i, i + 1 < b + 1 → low (X D (i + 1)) (X D i) := fun i hi => by
    have := hD.lo i (by omega)
    rw [X_map neg2 (by omega), X_map neg2 (by omega), low_neg2] at this
    exact this
  have dhold : ∀ i, i + 1 < b + 1 → ∀ x, x ∈ l → 0 ≤ Cross (X D i) (X D (i + 1)) x := fun i hi x hx => by
    have := hD.hold i (by omega) (neg2 x) (List.mem_map_of_mem hx)
    rw [X_map neg2 (by omega), X_map neg2 (by omega), Cross_neg2] at this
    exact this
  have dturn : ∀ i, i + 2 < b + 1 → 0 < Cross (X D i) (X D (i + 1)) (X D (i + 2)) := fun i hi => by
    have := hD.turn i (by omega)
    rw [X_map neg2 (by omega), X_map neg2 (by omega), X_map neg2 (by omega), Cross_neg2] at this
    exact this
  have xU : ∀ i, i < a → X q i = X U i := fun i hi => by
    rw [hq, X_app_l (by simp; omega), X_dropLast (by omega)]
  have xD : ∀ i, i < b → X q (a + i) = X D i := fun i hi => by
    rw [hq, X_app_r (by simp; omega), show a + i - U.dropLast.length = i by simp; omega, X_dropLast (by omega)]
  have aU : ∀ i, i ≤ a → At q i = X U i := fun i hi => by
    by_cases h : i < a
    · rw [At_lt q (by omega), xU i h]
    · obtain rfl : i = a := by omega
      rw [At_lt q (by omega), e1]
      exact xD 0 (by omega)
  have aD : ∀ i, i ≤ b → At q (a + i) = X D i := fun i hi => by
    by_cases h : i < b
    · rw [At_lt q (by omega), xD i h]
    · obtain rfl : i = b := by omega
      rw [e2, show a + i = 0 + q.length by omega, At_per, aU 0 (by omega)]
  have eU : ∀ i, i < a → edge (At q) i = sub (X U (i + 1)) (X U i) := fun i hi => by
    unfold edge; rw [aU i (by omega), aU (i + 1) (by omega)]
  have eD : ∀ i, i < b → edge (At q) (a + i) = sub (X D (i + 1)) (X D i) := fun i hi => by
    unfold edge; rw [aD i (by omega), show a + i + 1 = a + (i + 1) from rfl, aD (i + 1) (by omega)]
  have upU : ∀ i, i < a → up (edge (At q) i) := fun i hi => by
    rw [eU i hi, ← low_up]; exact hU.lo i (by omega)
  have negedge : ∀ i, i < b → neg (edge (At q) (a + i)) = sub (X D i) (X D (i + 1)) := fun i hi => by
    rw [eD i hi]; unfold neg sub; ext <;> dsimp only <;> omega
  have upD' : ∀ i, i < b → up (neg (edge (At q) (a + i))) := fun i hi => by
    rw [negedge i hi, ← low_up]; exact dlo i (by omega)
  have nnD : ∀ i, i < b → neg (neg (edge (At q) (a + i))) = edge (At q) (a + i) := fun i hi => by
    unfold neg; ext <;> dsimp only <;> omega
  have upD : ∀ i, i < b → ¬ up (edge (At q) (a + i)) := fun i hi => by
    have := up_not_neg (upD' i hi)
    exact fun h => this (by rw [← nnD i hi] at h; exact h)
  have hper := edge_per (P := At q) (At_per q)
  -- all places lie left of all sides
  have holdE : ∀ k, k < q.length → ∀ x, x ∈ l → 0 ≤ cr (edge (At q) k) (sub x (At q k)) := fun k hk x hx => by
    by_cases c : k < a
    · have := hU.hold k (by omega) x hx
      rw [Cross_cr] at this
      rw [eU k c, aU k (by omega)]; exact this
    · obtain ⟨i, rfl⟩ : ∃ i, k = a + i := ⟨k - a, by omega⟩
      have := dhold i (by omega) x hx
      rw [Cross_cr] at this
      rw [eD i (by omega), aD i (by omega)]; exact this
  have memA : ∀ k, At q k ∈ l := fun k => by
    rw [← At_mod, At_lt q (Nat.mod_lt _ (by omega))]
    have := X_mem (o := q) (Nat.mod_lt k (by omega))
    rw [hq] at this ⊢
    rcases List.mem_append.1 this with h | h
    · exact hUl _ ((List.dropLast_sublist _).subset h)
    · exact hDl _ ((List.dropLast_sublist _).subset h)
  obtain ⟨x0, hx0, hc0⟩ := hno
  -- two sides, one up and one down, at one corner
  have corner : ∀ (e f c : XY), e ≠ (0, 0) → up e → up (neg f) → (∀ x, x ∈ l → 0 ≤ cr e (sub x c)) → (∀ x, x ∈ l → 0 ≤ cr f (sub x c)) → cr e f ≠ 0 := by
    intro e f c ne ue uf h1 h2 hz
    have hz' : cr e (neg f) = 0 := by unfold cr neg at *; simp only at *; grind
    have hall : ∀ x, x ∈ l → cr e (sub x c) = 0 := fun x hx => by
      refine Decidable.byContradiction fun hn => ?_
      have h1' := h1 x hx
      have h2' := h2 x hx
      have := par_pos (up_nz ue) (up_nz uf) ⟨fun _ => uf, fun _ => ue⟩ hz' (show 0 < cr e (sub x c) by omega)
      have e3 : cr (neg f) (sub x c) = - cr f (sub x c) := by unfold cr neg; simp only; grind
      omega
    have hp := fun x (hx : x ∈ l) y (hy : y ∈ l) => par_zero ne (hall x hx) (hall y hy)
    have m0 := memA 0
    have ma := memA a
    rw [aU 0 (by omega)] at m0
    have ea := aD 0 (by omega)
    rw [Nat.add_zero] at ea
    rw [ea] at ma
    apply hc0
    have q1 := hp _ m0 _ ma
    have q2 := hp _ m0 _ hx0
    have q3 := hp _ ma _ hx0
    have : Cross (X U 0) (X D 0) x0 = cr (sub (X U 0) c) (sub (X D 0) c) - cr (sub (X U 0) c) (sub x0 c) + cr (sub (X D 0) c) (sub x0 c) := by
      unfold Cross cr sub; grind
    omega
  have hl : ∀ k, k < q.length → 0 < cr (edge (At q) k) (edge (At q) (k + 1)) := fun k hk => by
    by_cases c : k + 1 < a
    · have := hU.turn k (by omega)
      rw [← turn_eq] at this
      rw [eU k (by omega), eU (k + 1) c]; exact this
    · by_cases c1 : k < a
      · obtain rfl : a = k + 1 := by omega
        have h1 := fun x hx => holdE k hk x hx
        have h2 := fun x hx => holdE (k + 1) (by omega) x hx
        have h1' : ∀ x, x ∈ l → 0 ≤ cr (edge (At q) k) (sub x (At q (k + 1))) := fun x hx => by
          have := h1 x hx
          have e : cr (edge (At q) k) (sub x (At q (k + 1))) = cr (edge (At q) k) (sub x (At q k)) := by unfold edge cr sub; grind
          omega
        have hn := corner _ _ _ (up_nz (upU k (by omega))) (upU k (by omega)) (upD' 0 (by omega)) h1' h2
        rw [Nat.add_zero] at hn
        have := h1' _ (memA (k + 1 + 1))
        have e : sub (At q (k + 1 + 1)) (At q (k + 1)) = edge (At q) (k + 1) := rfl
        rw [e] at this
        omega
      · obtain ⟨i, rfl⟩ : ∃ i, k = a + i := ⟨k - a, by omega⟩
        by_cases c2 : i + 1 < b
        · have := dturn i (by omega)
          rw [← turn_eq] at this
          rw [eD i (by omega), show a + i + 1 = a + (i + 1) from rfl, eD (i + 1) c2]; exact this
        · obtain rfl : b = i + 1 := by omega
          have ep := hper 0
          rw [hlen, Nat.zero_add] at ep
          rw [show a + i + 1 = a + (i + 1) from rfl, ep]
          have h1 := fun x hx => holdE 0 (by omega) x hx
          have h2 := fun x hx => holdE (a + i) hk x hx
          have ap := At_per q 0
          rw [hlen, Nat.zero_add] at ap
          have h2' : ∀ x, x ∈ l → 0 ≤ cr (edge (At q) (a + i)) (sub x (At q 0)) := fun x hx => by
            have := h2 x hx
            have e : cr (edge (At q) (a + i)) (sub x (At q (a + (i + 1)))) = cr (edge (At q) (a + i)) (sub x (At q (a + i))) := by unfold edge cr sub; grind
            rw [← ap]
            omega
          have hn := corner _ _ _ (up_nz (upU 0 (by omega))) (upU 0 (by omega)) (upD' i (by omega)) h1 h2'
          have := h2' _ (memA 1)
          have e : sub (At q 1) (At q 0) = edge (At q) 0 := rfl
          rw [e] at this
          have := cr_flip (edge (At q) 0) (edge (At q) (a + i))
          omega
  have hl' : ∀ k, 0 < cr (edge (At q) k) (edge (At q) (k + 1)) := fun k => by
    have := hl (k % q.length) (Nat.mod_lt _ (by omega))
    have e : ∀ j, edge (At q) (k % q.length + j) = edge (At q) (k + j) := fun j => by
      unfold edge
      rw [At_congr q (show (k % q.length + j + 1) % q.length = (k + j + 1) % q.length by rw [Nat.add_assoc, Nat.mod_add_mod, Nat.add_assoc]), At_congr q (show (k % q.length + j) % q.length = (k + j) % q.length by rw [Nat.mod_add_mod])]
    have e0 := e 0
    rw [Nat.add_zero, Nat.add_zero] at e0
    rw [e0, e 1] at this
    exact this
  have hR0 : ∀ k, k < q.length → R (At q) k = 0 := by
    intro k hk
    induction k with
    | zero => rfl
    | succ k ih =>
      rw [R, ih (by omega), if_neg]
      rintro ⟨h1, h2⟩
      by_cases c : k + 1 < a
      · exact h2 (upU k (by omega))
      · obtain ⟨i, hi⟩ : ∃ i, k + 1 = a + i := ⟨k + 1 - a, by omega⟩
        rw [hi] at h1
        exact upD i (by omega) h1
  have hR : R (At q) q.length = 1 := by
    obtain ⟨m, hm⟩ : ∃ m, q.length = m + 1 := ⟨q.length - 1, by omega⟩
    rw [hm, R, hR0 m (by omega), if_pos]
    refine ⟨?_, ?_⟩
    · have ep := hper 0
      rw [hm, Nat.zero_add] at ep
      rw [ep]; exact upU 0 (by omega)
    · rw [show m = a + (b - 1) by omega]; exact upD _ (by omega)
  have h3 : 3 ≤ q.length := by
    refine Decidable.byContradiction fun hn => ?_
    have h1 := hl' 0
    have h2 := hl' 1
    have ep := hper 0
    rw [show q.length = 2 by omega] at ep
    rw [show 1 + 1 = 0 + 2 from rfl, ep] at h2
    have := cr_flip (edge (At q) 0) (edge (At q) 1)
    rw [Nat.zero_add] at h1
    omega
  refine ⟨⟨h3, fun i k h2 hk => by rw [Cross_cr]; exact local_global (At_per _) hl' hR i k h2 hk, fun j hj => ?_⟩, fun p hp k hk => ?_⟩
  · rw [xU 0 (by omega), ← At_lt q hj]
    exact hlo _ (memA j)
  · have := holdE k hk p hp
    rwa [At_lt q hk] at this
end Go.Proofs.Ytflkhjicgojcbaa.Geo
