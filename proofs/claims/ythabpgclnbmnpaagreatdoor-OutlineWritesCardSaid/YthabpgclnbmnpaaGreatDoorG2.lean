/- Plain geometry: lists of corners that are begun elsewhere, mirrored, moved or turned. It imports nothing of the program. -/
import Derived.Test.YthabpgclnbmnpaaGreatDoorGeo
namespace Go.Proofs.YthabpgclnbmnpaaGreatDoor.Geo

theorem list_ext {a b : List XY} (hl : a.length = b.length) (h : ∀ i, i < a.length → X a i = X b i) : a = b := by
  apply List.ext_getElem hl
  intro i h1 h2
  have := h i h1
  unfold X at this
  rw [List.getElem?_eq_getElem h1, List.getElem?_eq_getElem h2] at this
  simpa using this
theorem X_mem {o : List XY} {i : Nat} (h : i < o.length) : X o i ∈ o := by
  unfold X; rw [List.getElem?_eq_getElem h]; exact List.getElem_mem h
theorem mem_X {o : List XY} {p : XY} (h : p ∈ o) : ∃ i, i < o.length ∧ X o i = p := by
  obtain ⟨i, hi, he⟩ := List.getElem_of_mem h
  exact ⟨i, hi, by unfold X; rw [List.getElem?_eq_getElem hi]; exact he⟩
theorem At_congr (o : List XY) {i j : Nat} (h : i % o.length = j % o.length) : At o i = At o j := by
  rw [← At_mod o i, ← At_mod o j, h]
theorem At_X (o : List XY) (h0 : 0 < o.length) (i : Nat) : At o i = X o (i % o.length) := by
  rw [← At_mod o i, At_lt o (Nat.mod_lt _ h0)]

def Rot (o : List XY) (k : Nat) : List XY := o.drop k ++ o.take k
theorem Rot_length {o : List XY} {k : Nat} (h : k ≤ o.length) : (Rot o k).length = o.length := by unfold Rot; simp; omega
theorem mem_Rot {o : List XY} {k : Nat} {p : XY} : p ∈ Rot o k ↔ p ∈ o := by
  have h : p ∈ o ↔ p ∈ o.take k ++ o.drop k := by rw [List.take_append_drop]
  rw [h]; unfold Rot; rw [List.mem_append, List.mem_append]; exact Or.comm
theorem X_Rot {o : List XY} {k i : Nat} (hk : k ≤ o.length) (h : i < o.length) : X (Rot o k) i = At o (k + i) := by
  unfold X Rot At
  rw [List.getElem?_append]
  simp only [List.length_drop]
  by_cases c : i < o.length - k
  · rw [if_pos c, List.getElem?_drop, Nat.mod_eq_of_lt (by omega)]; simp
  · rw [if_neg c, List.getElem?_take, if_pos (by omega)]
    have : (k + i) % o.length = i - (o.length - k) := by
      rw [Nat.mod_eq_sub_mod (by omega), Nat.mod_eq_of_lt (by omega)]; omega
    rw [this]; simp
theorem At_Rot {o : List XY} {k : Nat} (hk : k ≤ o.length) (h0 : 0 < o.length) (i : Nat) : At (Rot o k) i = At o (k + i) := by
  rw [At_X _ (by rw [Rot_length hk]; exact h0), Rot_length hk, X_Rot hk (Nat.mod_lt _ h0)]
  apply At_congr
  rw [Nat.add_mod_mod]
theorem canon_is (o : List XY) : canon o = Rot o (lowIdx o o.length) := rfl
theorem lowIdx_le (o : List XY) : lowIdx o o.length ≤ o.length := by
  by_cases h : o.length = 0
  · rw [h]; simp [lowIdx]
  · have := lowIdx_lt o o.length (by omega); omega
theorem mem_canon {o : List XY} {p : XY} : p ∈ canon o ↔ p ∈ o := mem_Rot

/-- every corner has all others to the left of the side behind it -/
def RG (o : List XY) : Prop := ∀ i k, 2 ≤ k → k < o.length → 0 < Cross (At o i) (At o (i + 1)) (At o (i + k))
theorem mod_two {n i k : Nat} (h1 : i < n) (h2 : k < n) : (i + k) % n = if i + k < n then i + k else i + k - n := by
  split
  · exact Nat.mod_eq_of_lt (by assumption)
  · rw [Nat.mod_eq_sub_mod (by omega)]; exact Nat.mod_eq_of_lt (by omega)
theorem rglob_iff {o : List XY} (h3 : 3 ≤ o.length) : RGlob o ↔ RG o := by
  constructor
  · intro h i k h2 hk
    have hi := Nat.mod_lt i (show 0 < o.length by omega)
    have m1 := mod_two hi (show 1 < o.length by omega)
    have mk := mod_two hi hk
    have := h (i % o.length) hi ((i % o.length + k) % o.length) (Nat.mod_lt _ (by omega)) (by rw [mk]; split <;> omega) (by rw [mk, m1]; split <;> split <;> omega)
    rw [At_mod, At_mod, At_congr o (show (i % o.length + 1) % o.length = (i + 1) % o.length by rw [Nat.mod_add_mod]), At_congr o (show (i % o.length + k) % o.length = (i + k) % o.length by rw [Nat.mod_add_mod])] at this
    exact this
  · intro h i hi j hj h1 h2
    have m1 := mod_two hi (show 1 < o.length by omega)
    by_cases c : i < j
    · have := h i (j - i) (by split at m1 <;> omega) (by omega)
      rwa [show i + (j - i) = j by omega] at this
    · have := h i (j + o.length - i) (by split at m1 <;> omega) (by omega)
      rwa [show i + (j + o.length - i) = j + o.length by omega, At_per] at this

def Dist (o : List XY) : Prop := ∀ i j, i < o.length → j < o.length → X o i = X o j → i = j
theorem RG.dist {o : List XY} (h3 : 3 ≤ o.length) (h : RG o) : Dist o := by
  have key : ∀ i k, 0 < k → k < o.length → At o i ≠ At o (i + k) := by
    intro i k h0 hk he
    by_cases h1 : k = 1
    · subst h1
      have := h i 2 (by omega) (by omega)
      rw [← he] at this
      unfold Cross at this
      have e : ∀ a b c d : Int, (a - a) * b - (c - c) * d = 0 := by intro a b c d; simp
      rw [e] at this; omega
    · have := h i k (by omega) hk
      rw [← he] at this
      unfold Cross at this
      have e : ∀ a b c d : Int, (a - b) * (c - c) - (d - c) * (b - b) = 0 := by intro a b c d; simp
      rw [e] at this; omega
  intro i j hi hj he
  rcases Nat.lt_trichotomy i j with c | c | c
  · have := key i (j - i) (by omega) (by omega)
    rw [show i + (j - i) = j by omega, At_lt o hi, At_lt o hj] at this
    exact absurd he this
  · exact c
  · have := key j (i - j) (by omega) (by omega)
    rw [show j + (i - j) = i by omega, At_lt o hi, At_lt o hj] at this
    exact absurd he.symm this

theorem canon_Rot {o : List XY} (hd : Dist o) (h0 : 0 < o.length) {k : Nat} (hk : k ≤ o.length) : canon (Rot o k) = canon o := by
  have hl := Rot_length hk
  have hm := lowIdx_lt o o.length h0
  have hm' : lowIdx (Rot o k) (Rot o k).length < o.length := by have := lowIdx_lt (Rot o k) (Rot o k).length (by omega); omega
  obtain ⟨m, em⟩ : ∃ m, m = lowIdx o o.length := ⟨_, rfl⟩
  obtain ⟨m', em'⟩ : ∃ m', m' = lowIdx (Rot o k) (Rot o k).length := ⟨_, rfl⟩
  have l1 := lowIdx_least o o.length
  have l2 := lowIdx_least (Rot o k) (Rot o k).length
  rw [← em] at hm l1
  rw [← em'] at hm' l2
  have e1 : X (Rot o k) m' = X o ((k + m') % o.length) := by rw [X_Rot hk hm', At_X o h0]
  have e2 : X (Rot o k) ((m + o.length - k) % o.length) = X o m := by
    rw [X_Rot hk (Nat.mod_lt _ h0), ← At_lt o hm]
    apply At_congr
    rw [Nat.add_mod_mod, show k + (m + o.length - k) = m + o.length by omega, Nat.add_mod_right]
  have n1 := l1 ((k + m') % o.length) (Nat.mod_lt _ h0)
  have n2 := l2 ((m + o.length - k) % o.length) (by rw [hl]; exact Nat.mod_lt _ h0)
  rw [e2, e1] at n2
  have he : X o ((k + m') % o.length) = X o m := by
    rcases low_total (X o ((k + m') % o.length)) (X o m) with c | c | c
    · exact absurd c n1
    · exact c
    · exact absurd c n2
  have hi := hd _ _ (Nat.mod_lt _ h0) hm he
  apply list_ext
  · rw [canon_length, canon_length, hl]
  · intro i h
    rw [canon_length, hl] at h
    rw [canon_get _ _ (by rw [hl]; exact h), canon_get _ _ h, ← em, ← em', At_Rot hk h0]
    apply At_congr
    rw [← Nat.add_assoc, ← Nat.mod_add_mod, hi]
theorem canon_canon {o : List XY} (hd : Dist o) (h0 : 0 < o.length) : canon (canon o) = canon o := canon_Rot hd h0 (lowIdx_le o)

theorem RG.rot {o : List XY} (h : RG o) {k : Nat} (hk : k ≤ o.length) : RG (Rot o k) := by
  intro i j h2 hj
  rw [Rot_length hk] at hj
  have h0 : 0 < o.length := by omega
  rw [At_Rot hk h0, At_Rot hk h0, At_Rot hk h0, ← Nat.add_assoc, ← Nat.add_assoc]
  exact h _ _ h2 hj
theorem X_map {o : List XY} (f : XY → XY) {i : Nat} (h : i < o.length) : X (o.map f) i = f (X o i) := by
  unfold X; rw [List.getElem?_map, List.getElem?_eq_getElem h]; rfl
theorem At_map {o : List XY} (f : XY → XY) (h0 : 0 < o.length) (i : Nat) : At (o.map f) i = f (At o i) := by
  rw [At_X _ (by rw [List.length_map]; exact h0), List.length_map, X_map f (Nat.mod_lt _ h0), At_X o h0]
theorem RG.map {o : List XY} (h : RG o) (f : XY → XY) (hf : ∀ a b c, Cross (f a) (f b) (f c) = Cross a b c) : RG (o.map f) := by
  intro i k h2 hk
  rw [List.length_map] at hk
  rw [At_map f (by omega), At_map f (by omega), At_map f (by omega), hf]
  exact h i k h2 hk
theorem X_rev {o : List XY} {i : Nat} (h : i < o.length) : X o.reverse i = X o (o.length - 1 - i) := by
  unfold X; rw [List.getElem?_reverse h]
theorem At_rev {o : List XY} (h0 : 0 < o.length) (i : Nat) : At o.reverse i = At o (o.length - 1 - i % o.length) := by
  have := Nat.mod_lt i h0
  rw [At_X _ (by rw [List.length_reverse]; exact h0), List.length_reverse, X_rev this, At_lt o (by omega)]
theorem At_rev_k {o : List XY} (h0 : 0 < o.length) (i k : Nat) (hk : k < o.length) : At o.reverse (i + k) = At o (2 * o.length - 1 - i % o.length - k) := by
  rw [At_rev h0]
  have hi := Nat.mod_lt i h0
  have m := mod_two hi hk
  rw [Nat.mod_add_mod] at m
  rw [m]
  split
  · rw [show 2 * o.length - 1 - i % o.length - k = (o.length - 1 - (i % o.length + k)) + o.length by omega, At_per]
  · congr 1; omega
theorem Cross_swap (a b c : XY) : Cross b a c = - Cross a b c := by unfold Cross; grind
theorem RG.rev {o : List XY} (h : RG o) (f : XY → XY) (hf : ∀ a b c, Cross (f a) (f b) (f c) = - Cross a b c) : RG (o.map f).reverse := by
  intro i k h2 hk
  rw [List.length_reverse, List.length_map] at hk
  have h0 : 0 < (o.map f).length := by rw [List.length_map]; omega
  have hl : (o.map f).length = o.length := List.length_map _
  have hi := Nat.mod_lt i (show 0 < o.length by omega)
  have a1 := At_rev_k h0 i 0 (by omega)
  have a2 := At_rev_k h0 i 1 (by omega)
  have a3 := At_rev_k h0 i k (by omega)
  rw [hl, At_map f (by omega)] at a1 a2 a3
  rw [Nat.add_zero] at a1
  rw [a1, a2, a3, hf]
  obtain ⟨a, ha⟩ : ∃ a, a = 2 * o.length - 1 - i % o.length - 1 := ⟨_, rfl⟩
  have := h a (o.length + 1 - k) (by omega) (by omega)
  rw [show a + (o.length + 1 - k) = (2 * o.length - 1 - i % o.length - k) + o.length by omega, At_per] at this
  rw [show 2 * o.length - 1 - i % o.length - 0 = a + 1 by omega, ← ha, Cross_swap]
  omega

/-- a sum over the sides -/
def sumN (g : Nat → Int) : Nat → Int
  | 0 => 0
  | k + 1 => sumN g k + g k
theorem sumN_congr {g h : Nat → Int} (n : Nat) (e : ∀ i, i < n → g i = h i) : sumN g n = sumN h n := by
  induction n with
  | zero => rfl
  | succ n ih => rw [sumN, sumN, ih (fun i hi => e i (by omega)), e n (by omega)]
theorem sumN_first (g : Nat → Int) (n : Nat) : sumN g (n + 1) = g 0 + sumN (fun i => g (i + 1)) n := by
  induction n with
  | zero => simp [sumN]
  | succ n ih => rw [sumN, ih, sumN]; omega
theorem sumN_shift {g : Nat → Int} {n : Nat} (per : ∀ i, g (i + n) = g i) (k : Nat) : sumN (fun i => g (k + i)) n = sumN g n := by
  induction k with
  | zero => exact sumN_congr n fun i _ => by rw [Nat.zero_add]
  | succ k ih =>
    have h1 : sumN (fun i => g (k + i)) (n + 1) = sumN (fun i => g (k + i)) n + g (k + n) := rfl
    have h2 := sumN_first (fun i => g (k + i)) n
    have h3 : sumN (fun i => g (k + (i + 1))) n = sumN (fun i => g (k + 1 + i)) n := sumN_congr n fun i _ => by congr 1; omega
    have h4 := per k
    simp only [Nat.add_zero] at h2
    omega
theorem sumN_rev (g : Nat → Int) (n : Nat) : sumN (fun i => g (n - 1 - i)) n = sumN g n := by
  induction n generalizing g with
  | zero => rfl
  | succ n ih =>
    rw [sumN_first, sumN]
    have : sumN (fun i => g (n + 1 - 1 - (i + 1))) n = sumN (fun i => g (n - 1 - i)) n := sumN_congr n fun i _ => by congr 1; omega
    rw [this, ih]
    simp; omega
def sumE (F : XY → XY → Int) (o : List XY) : Int := sumN (fun i => F (At o i) (At o (i + 1))) o.length
theorem sumE_Rot (F : XY → XY → Int) {o : List XY} {k : Nat} (hk : k ≤ o.length) : sumE F (Rot o k) = sumE F o := by
  by_cases h0 : o.length = 0
  · unfold sumE; rw [Rot_length hk, h0]; rfl
  · unfold sumE
    rw [Rot_length hk, ← sumN_shift (g := fun i => F (At o i) (At o (i + 1))) (n := o.length) (fun i => by rw [show i + o.length + 1 = i + 1 + o.length by omega, At_per, At_per]) k]
    exact sumN_congr _ fun i _ => by rw [At_Rot hk (by omega), At_Rot hk (by omega), ← Nat.add_assoc]
theorem sumE_map (F G : XY → XY → Int) (f : XY → XY) (hF : ∀ a b, F (f a) (f b) = G a b) (o : List XY) : sumE F (o.map f) = sumE G o := by
  by_cases h0 : o.length = 0
  · unfold sumE; rw [List.length_map, h0]; rfl
  · unfold sumE
    rw [List.length_map]
    exact sumN_congr _ fun i _ => by rw [At_map f (by omega), At_map f (by omega), hF]
theorem sumE_rev (F G : XY → XY → Int) (hFG : ∀ a b, F a b = G b a) (o : List XY) : sumE F o.reverse = sumE G o := by
  by_cases h0 : o.length = 0
  · unfold sumE; rw [List.length_reverse, h0]; rfl
  · have h0 : 0 < o.length := by omega
    unfold sumE
    rw [List.length_reverse, ← sumN_shift (g := fun i => G (At o i) (At o (i + 1))) (n := o.length) (fun i => by rw [show i + o.length + 1 = i + 1 + o.length by omega, At_per, At_per]) (o.length - 1), ← sumN_rev]
    refine sumN_congr _ fun i hi => ?_
    obtain ⟨j, hj⟩ : ∃ j, j = o.length - 1 - i := ⟨_, rfl⟩
    rw [← hj, hFG]
    have hjl : j < o.length := by omega
    have a1 : At o.reverse j = At o (o.length - 1 + i + 1) := by
      have := At_rev_k h0 j 0 (by omega)
      rw [Nat.add_zero, Nat.mod_eq_of_lt hjl] at this
      rw [this]; congr 1; omega
    have a2 : At o.reverse (j + 1) = At o (o.length - 1 + i) := by
      by_cases c : 1 < o.length
      · rw [At_rev_k h0 j 1 c, Nat.mod_eq_of_lt hjl]; congr 1; omega
      · have : o.length = 1 := by omega
        rw [At_rev h0]; apply At_congr; rw [this]; omega
    rw [a1, a2]
theorem Rot_map (f : XY → XY) (o : List XY) (k : Nat) : (Rot o k).map f = Rot (o.map f) k := by
  unfold Rot; rw [List.map_append, List.map_drop, List.map_take]
theorem Rot_rev (o : List XY) {k : Nat} (hk : k ≤ o.length) : (Rot o k).reverse = Rot o.reverse (o.length - k) := by
  unfold Rot
  rw [List.reverse_append, List.drop_reverse, List.take_reverse, show o.length - (o.length - k) = k by omega]
/-- the greatest number f p of a list's places -/
def IsMax (l : List XY) (f : XY → Int) (m : Int) : Prop := (∀ p, p ∈ l → f p ≤ m) ∧ ∃ p, p ∈ l ∧ f p = m
theorem IsMax.unique {l : List XY} {f : XY → Int} {m n : Int} (h : IsMax l f m) (k : IsMax l f n) : m = n := by
  obtain ⟨h1, p, hp, rfl⟩ := h
  obtain ⟨k1, q, hq, rfl⟩ := k
  have := h1 q hq
  have := k1 p hp
  omega
theorem IsMax.of_mem {l l' : List XY} {f : XY → Int} {m : Int} (h : IsMax l f m) (hm : ∀ p, p ∈ l' ↔ p ∈ l) : IsMax l' f m := by
  obtain ⟨h1, p, hp, he⟩ := h
  exact ⟨fun q hq => h1 q ((hm q).1 hq), p, (hm p).2 hp, he⟩
theorem IsMax.map {l : List XY} {f g : XY → Int} {k : XY → XY} {m : Int} (h : IsMax l g m) (hf : ∀ p, f (k p) = g p) : IsMax (l.map k) f m := by
  obtain ⟨h1, p, hp, he⟩ := h
  refine ⟨fun q hq => ?_, k p, List.mem_map.2 ⟨p, hp, rfl⟩, by rw [hf]; exact he⟩
  obtain ⟨r, hr, rfl⟩ := List.mem_map.1 hq
  rw [hf]; exact h1 r hr
theorem IsMax.add {l : List XY} {f g : XY → Int} {m c : Int} (h : IsMax l f m) (hg : ∀ p, g p = f p + c) : IsMax l g (m + c) := by
  obtain ⟨h1, p, hp, he⟩ := h
  exact ⟨fun q hq => by rw [hg]; have := h1 q hq; omega, p, hp, by rw [hg, he]⟩
theorem areaK_sum (o : List XY) (k : Nat) : areaK o k = sumN (fun i => cr (At o i) (At o (i + 1))) k := by
  induction k with
  | zero => rfl
  | succ k ih => rw [areaK, sumN, ih]
theorem area_sumE (o : List XY) : areaK o o.length = sumE cr o := areaK_sum o _
end Go.Proofs.YthabpgclnbmnpaaGreatDoor.Geo
