/- Outlines that are begun elsewhere, mirrored, moved or turned: they stay outlines, and what their measures are. -/
import Derived.Test.YtflkhjicgojcbaaG2
import Derived.Test.YtflkhjicgojcbaaL8
namespace Go.Proofs.Ytflkhjicgojcbaa
open Go.RowKit

theorem valid_of_rg {l : List Geo.XY} (h3 : 3 ≤ l.length) (h64 : l.length ≤ 64) (hin : ∀ p, p ∈ l → Geo.In p) (h : Geo.RG l) : Valid l :=
  ⟨h3, h64, fun _ hk => hin _ (Geo.X_mem hk), (Geo.rglob_iff h3).2 h⟩
theorem Valid.rg {l : List Geo.XY} (h : Valid l) : Geo.RG l := (Geo.rglob_iff h.1).1 h.2.2.2
theorem Valid.mem_in {l : List Geo.XY} (h : Valid l) {p : Geo.XY} (hp : p ∈ l) : Geo.In p := by
  obtain ⟨i, hi, rfl⟩ := Geo.mem_X hp; exact h.2.2.1 i hi
theorem Valid.dist {l : List Geo.XY} (h : Valid l) : Geo.Dist l := h.rg.dist h.1
theorem Valid.rot {l : List Geo.XY} (h : Valid l) {k : Nat} (hk : k ≤ l.length) : Valid (Geo.Rot l k) :=
  valid_of_rg (by rw [Geo.Rot_length hk]; exact h.1) (by rw [Geo.Rot_length hk]; exact h.2.1) (fun _ hp => h.mem_in (Geo.mem_Rot.1 hp)) (h.rg.rot hk)
theorem Valid.canon {l : List Geo.XY} (h : Valid l) : Valid (Geo.canon l) := h.rot (Geo.lowIdx_le l)
theorem Valid.pos {l : List Geo.XY} (h : Valid l) : 0 < l.length := by have := h.1; omega
theorem Valid.neg {l : List Geo.XY} (h : Valid l) : Valid (l.map negXY) := by
  refine valid_of_rg (by rw [List.length_map]; exact h.1) (by rw [List.length_map]; exact h.2.1) (fun p hp => ?_) (h.rg.map negXY fun a b c => by unfold Geo.Cross negXY; grind)
  obtain ⟨q, hq, rfl⟩ := List.mem_map.1 hp
  have := h.mem_in hq
  unfold Geo.In negXY at *
  dsimp only
  omega
theorem Valid.mir {l : List Geo.XY} (h : Valid l) : Valid (mirL l) := by
  refine valid_of_rg (by rw [mirL_len]; exact h.1) (by rw [mirL_len]; exact h.2.1) (fun p hp => ?_) (h.rg.rev mirXY fun a b c => by unfold Geo.Cross mirXY; grind)
  obtain ⟨q, hq, rfl⟩ := List.mem_map.1 (List.mem_reverse.1 hp)
  have := h.mem_in hq
  unfold Geo.In mirXY at *
  dsimp only
  omega
theorem canon_same {l : List Geo.XY} (h : Valid l) : Geo.canon (Geo.canon l) = Geo.canon l := Geo.canon_canon h.dist h.pos
theorem canon_rot {l : List Geo.XY} (h : Valid l) {k : Nat} (hk : k ≤ l.length) : Geo.canon (Geo.Rot l k) = Geo.canon l := Geo.canon_Rot h.dist h.pos hk
theorem neg_neg_list (l : List Geo.XY) : (l.map negXY).map negXY = l := by
  rw [List.map_map]
  have : negXY ∘ negXY = id := by funext p; simp [negXY]
  rw [this, List.map_id]
theorem mir_mir_list (l : List Geo.XY) : mirL (mirL l) = l := by
  unfold mirL
  rw [List.map_reverse, List.reverse_reverse, List.map_map]
  have : mirXY ∘ mirXY = id := by funext p; simp [mirXY]
  rw [this, List.map_id]
theorem canon_neg_back {l : List Geo.XY} (h : Valid l) : Geo.canon ((Geo.canon (l.map negXY)).map negXY) = Geo.canon l := by
  have hk := Geo.lowIdx_le (l.map negXY)
  rw [Geo.canon_is (l.map negXY), Geo.Rot_map, neg_neg_list]
  rw [List.length_map] at hk ⊢
  exact canon_rot h hk
theorem canon_mir_back {l : List Geo.XY} (h : Valid l) : Geo.canon (mirL (Geo.canon (mirL l))) = Geo.canon l := by
  have hk := Geo.lowIdx_le (mirL l)
  rw [mirL_len] at hk
  have e : mirL (Geo.canon (mirL l)) = Geo.Rot l (l.length - Geo.lowIdx (mirL l) l.length) := by
    rw [Geo.canon_is, mirL_len]
    show ((Geo.Rot (mirL l) _).map mirXY).reverse = _
    rw [Geo.Rot_map, Geo.Rot_rev _ (by rw [List.length_map, mirL_len]; exact hk), List.length_map, mirL_len]
    show Geo.Rot (mirL (mirL l)) _ = _
    rw [mir_mir_list]
  rw [e]
  exact canon_rot h (by omega)

/- the measures -/
theorem area_canon (l : List Geo.XY) : Geo.areaK (Geo.canon l) (Geo.canon l).length = Geo.areaK l l.length := by
  rw [Geo.area_sumE, Geo.area_sumE, Geo.canon_is, Geo.sumE_Rot _ (Geo.lowIdx_le l)]
theorem area_neg (l : List Geo.XY) : Geo.areaK (l.map negXY) (l.map negXY).length = Geo.areaK l l.length := by
  rw [Geo.area_sumE, Geo.area_sumE]
  exact Geo.sumE_map _ _ _ (fun a b => by unfold Geo.cr negXY; grind) _
theorem area_mir (l : List Geo.XY) : Geo.areaK (mirL l) (mirL l).length = Geo.areaK l l.length := by
  rw [Geo.area_sumE, Geo.area_sumE]
  unfold mirL
  rw [Geo.sumE_rev Geo.cr (fun a b => Geo.cr b a) (fun _ _ => rfl)]
  exact Geo.sumE_map _ _ _ (fun a b => by unfold Geo.cr mirXY; grind) _

def sqE (a b : Geo.XY) : Nat := ((a.1 - b.1) * (a.1 - b.1) + (a.2 - b.2) * (a.2 - b.2)).toNat
theorem sqE_comm (a b : Geo.XY) : sqE a b = sqE b a := by unfold sqE; congr 1; grind
theorem low_sum (l : List Geo.XY) : (lowK l l.length : Int) = Geo.sumE (fun a b => (Geo.fsq (sqE a b) : Int)) l := by
  have : ∀ k, k ≤ l.length → (lowK l k : Int) = Geo.sumN (fun i => (Geo.fsq (sqE (Geo.At l i) (Geo.At l (i + 1))) : Int)) k := by
    intro k hk
    induction k with
    | zero => rfl
    | succ k ih =>
      have ih := ih (by omega)
      rw [lowK, Geo.sumN, ← ih, Geo.At_lt l (show k < l.length by omega), Geo.At_X l (by omega)]
      unfold sdSq sqE
      omega
  exact this _ (Nat.le_refl _)
theorem high_sum (l : List Geo.XY) : (highK l l.length : Int) = Geo.sumE (fun a b => (Geo.csq (sqE a b) : Int)) l := by
  have : ∀ k, k ≤ l.length → (highK l k : Int) = Geo.sumN (fun i => (Geo.csq (sqE (Geo.At l i) (Geo.At l (i + 1))) : Int)) k := by
    intro k hk
    induction k with
    | zero => rfl
    | succ k ih =>
      have ih := ih (by omega)
      rw [highK, Geo.sumN, ← ih, Geo.At_lt l (show k < l.length by omega), Geo.At_X l (by omega)]
      unfold sdSq sqE
      omega
  exact this _ (Nat.le_refl _)
theorem sumE_canon (F : Geo.XY → Geo.XY → Int) (l : List Geo.XY) : Geo.sumE F (Geo.canon l) = Geo.sumE F l := by
  rw [Geo.canon_is, Geo.sumE_Rot _ (Geo.lowIdx_le l)]
theorem around_canon (l : List Geo.XY) : lowK (Geo.canon l) (Geo.canon l).length = lowK l l.length ∧ highK (Geo.canon l) (Geo.canon l).length = highK l l.length := by
  constructor
  · have h1 := low_sum (Geo.canon l); rw [sumE_canon, ← low_sum] at h1; omega
  · have h1 := high_sum (Geo.canon l); rw [sumE_canon, ← high_sum] at h1; omega
theorem around_neg (l : List Geo.XY) : lowK (l.map negXY) (l.map negXY).length = lowK l l.length ∧ highK (l.map negXY) (l.map negXY).length = highK l l.length := by
  have e : ∀ a b, sqE (negXY a) (negXY b) = sqE a b := fun a b => by unfold sqE negXY; congr 1; grind
  constructor
  · have h1 := low_sum (l.map negXY)
    rw [Geo.sumE_map _ (fun a b => (Geo.fsq (sqE a b) : Int)) negXY (fun a b => by rw [e]) l, ← low_sum] at h1; omega
  · have h1 := high_sum (l.map negXY)
    rw [Geo.sumE_map _ (fun a b => (Geo.csq (sqE a b) : Int)) negXY (fun a b => by rw [e]) l, ← high_sum] at h1; omega
theorem around_mir (l : List Geo.XY) : lowK (mirL l) (mirL l).length = lowK l l.length ∧ highK (mirL l) (mirL l).length = highK l l.length := by
  have e : ∀ a b, sqE (mirXY a) (mirXY b) = sqE a b := fun a b => by unfold sqE mirXY; congr 1; grind
  constructor
  · have h1 := low_sum (mirL l)
    unfold mirL at h1 ⊢
    rw [Geo.sumE_rev _ (fun a b => (Geo.fsq (sqE a b) : Int)) (fun a b => by rw [sqE_comm]), Geo.sumE_map _ (fun a b => (Geo.fsq (sqE a b) : Int)) mirXY (fun a b => by rw [e]) l, ← low_sum] at h1; omega
  · have h1 := high_sum (mirL l)
    unfold mirL at h1 ⊢
    rw [Geo.sumE_rev _ (fun a b => (Geo.csq (sqE a b) : Int)) (fun a b => by rw [sqE_comm]), Geo.sumE_map _ (fun a b => (Geo.csq (sqE a b) : Int)) mirXY (fun a b => by rw [e]) l, ← high_sum] at h1; omega
theorem low_high (l : List Geo.XY) (k : Nat) : lowK l k ≤ highK l k ∧ highK l k ≤ lowK l k + k := by
  induction k with
  | zero => simp [lowK, highK]
  | succ k ih =>
    rw [lowK, highK]
    have h := Geo.fsq_of_csq (sdSq l k)
    have h2 : Geo.fsq (sdSq l k) ≤ Geo.csq (sdSq l k) ∧ Geo.csq (sdSq l k) ≤ Geo.fsq (sdSq l k) + 1 := by
      unfold Geo.csq; split <;> omega
    omega

/- the box -/
theorem low_max1 (l : List Geo.XY) (h0 : 0 < l.length) : Geo.IsMax l (fun p => -p.1) (-(lowP l l.length).1) := by
  have : ∀ k, k ≤ l.length → (∀ j, j < k → -(Geo.X l j).1 ≤ -(lowP l k).1) ∧ ∃ p, p ∈ l ∧ -p.1 = -(lowP l k).1 := by
    intro k hk
    induction k with
    | zero => exact ⟨fun j hj => by omega, Geo.X l 0, Geo.X_mem h0, rfl⟩
    | succ k ih =>
      obtain ⟨h1, p, hp, he⟩ := ih (by omega)
      rw [lowP]; unfold mnP
      dsimp only
      by_cases c : (Geo.X l k).1 < (lowP l k).1
      · rw [if_pos c]
        exact ⟨fun j hj => by by_cases e : j = k; (subst e; omega); (have := h1 j (by omega); omega), _, Geo.X_mem (by omega), rfl⟩
      · rw [if_neg c]
        exact ⟨fun j hj => by by_cases e : j = k; (subst e; omega); (have := h1 j (by omega); omega), p, hp, he⟩
  obtain ⟨h1, h2⟩ := this _ (Nat.le_refl _)
  exact ⟨fun p hp => by obtain ⟨i, hi, rfl⟩ := Geo.mem_X hp; exact h1 i hi, h2⟩
theorem low_max2 (l : List Geo.XY) (h0 : 0 < l.length) : Geo.IsMax l (fun p => -p.2) (-(lowP l l.length).2) := by
  have : ∀ k, k ≤ l.length → (∀ j, j < k → -(Geo.X l j).2 ≤ -(lowP l k).2) ∧ ∃ p, p ∈ l ∧ -p.2 = -(lowP l k).2 := by
    intro k hk
    induction k with
    | zero => exact ⟨fun j hj => by omega, Geo.X l 0, Geo.X_mem h0, rfl⟩
    | succ k ih =>
      obtain ⟨h1, p, hp, he⟩ := ih (by omega)
      rw [lowP]; unfold mnP
      dsimp only
      by_cases c : (Geo.X l k).2 < (lowP l k).2
      · rw [if_pos c]
        exact ⟨fun j hj => by by_cases e : j = k; (subst e; omega); (have := h1 j (by omega); omega), _, Geo.X_mem (by omega), rfl⟩
      · rw [if_neg c]
        exact ⟨fun j hj => by by_cases e : j = k; (subst e; omega); (have := h1 j (by omega); omega), p, hp, he⟩
  obtain ⟨h1, h2⟩ := this _ (Nat.le_refl _)
  exact ⟨fun p hp => by obtain ⟨i, hi, rfl⟩ := Geo.mem_X hp; exact h1 i hi, h2⟩
theorem high_max1 (l : List Geo.XY) (h0 : 0 < l.length) : Geo.IsMax l (fun p => p.1) ((highP l l.length).1) := by
  have : ∀ k, k ≤ l.length → (∀ j, j < k → (Geo.X l j).1 ≤ (highP l k).1) ∧ ∃ p, p ∈ l ∧ p.1 = (highP l k).1 := by
    intro k hk
    induction k with
    | zero => exact ⟨fun j hj => by omega, Geo.X l 0, Geo.X_mem h0, rfl⟩
    | succ k ih =>
      obtain ⟨h1, p, hp, he⟩ := ih (by omega)
      rw [highP]; unfold mxP
      dsimp only
      by_cases c : (highP l k).1 < (Geo.X l k).1
      · rw [if_pos c]
        exact ⟨fun j hj => by by_cases e : j = k; (subst e; omega); (have := h1 j (by omega); omega), _, Geo.X_mem (by omega), rfl⟩
      · rw [if_neg c]
        exact ⟨fun j hj => by by_cases e : j = k; (subst e; omega); (have := h1 j (by omega); omega), p, hp, he⟩
  obtain ⟨h1, h2⟩ := this _ (Nat.le_refl _)
  exact ⟨fun p hp => by obtain ⟨i, hi, rfl⟩ := Geo.mem_X hp; exact h1 i hi, h2⟩
theorem high_max2 (l : List Geo.XY) (h0 : 0 < l.length) : Geo.IsMax l (fun p => p.2) ((highP l l.length).2) := by
  have : ∀ k, k ≤ l.length → (∀ j, j < k → (Geo.X l j).2 ≤ (highP l k).2) ∧ ∃ p, p ∈ l ∧ p.2 = (highP l k).2 := by
    intro k hk
    induction k with
    | zero => exact ⟨fun j hj => by omega, Geo.X l 0, Geo.X_mem h0, rfl⟩
    | succ k ih =>
      obtain ⟨h1, p, hp, he⟩ := ih (by omega)
      rw [highP]; unfold mxP
      dsimp only
      by_cases c : (highP l k).2 < (Geo.X l k).2
      · rw [if_pos c]
        exact ⟨fun j hj => by by_cases e : j = k; (subst e; omega); (have := h1 j (by omega); omega), _, Geo.X_mem (by omega), rfl⟩
      · rw [if_neg c]
        exact ⟨fun j hj => by by_cases e : j = k; (subst e; omega); (have := h1 j (by omega); omega), p, hp, he⟩
  obtain ⟨h1, h2⟩ := this _ (Nat.le_refl _)
  exact ⟨fun p hp => by obtain ⟨i, hi, rfl⟩ := Geo.mem_X hp; exact h1 i hi, h2⟩
theorem canon_pos {l : List Geo.XY} (h0 : 0 < l.length) : 0 < (Geo.canon l).length := by rw [Geo.canon_length]; exact h0
theorem ends_canon {l : List Geo.XY} (h0 : 0 < l.length) : lowP (Geo.canon l) (Geo.canon l).length = lowP l l.length ∧ highP (Geo.canon l) (Geo.canon l).length = highP l l.length := by
  have a1 := (low_max1 _ (canon_pos h0)).unique ((low_max1 l h0).of_mem fun _ => Geo.mem_canon)
  have a2 := (low_max2 _ (canon_pos h0)).unique ((low_max2 l h0).of_mem fun _ => Geo.mem_canon)
  have a3 := (high_max1 _ (canon_pos h0)).unique ((high_max1 l h0).of_mem fun _ => Geo.mem_canon)
  have a4 := (high_max2 _ (canon_pos h0)).unique ((high_max2 l h0).of_mem fun _ => Geo.mem_canon)
  exact ⟨Prod.ext (by omega) (by omega), Prod.ext a3 a4⟩
theorem box_canon {l : List Geo.XY} (h0 : 0 < l.length) : boxA (Geo.canon l) = boxA l ∧ boxB (Geo.canon l) = boxB l := by
  unfold boxA boxB; rw [(ends_canon h0).1, (ends_canon h0).2]; exact ⟨rfl, rfl⟩
theorem box_neg {l : List Geo.XY} (h0 : 0 < l.length) : boxA (l.map negXY) = boxA l ∧ boxB (l.map negXY) = boxB l := by
  have h0' : 0 < (l.map negXY).length := by rw [List.length_map]; exact h0
  have a1 := (low_max1 _ h0').unique ((high_max1 l h0).map (f := fun p => -p.1) (k := negXY) fun p => by simp [negXY])
  have a2 := (low_max2 _ h0').unique ((high_max2 l h0).map (f := fun p => -p.2) (k := negXY) fun p => by simp [negXY])
  have a3 := (high_max1 _ h0').unique ((low_max1 l h0).map (f := fun p => p.1) (k := negXY) fun p => by simp [negXY])
  have a4 := (high_max2 _ h0').unique ((low_max2 l h0).map (f := fun p => p.2) (k := negXY) fun p => by simp [negXY])
  unfold boxA boxB; omega
theorem box_mir {l : List Geo.XY} (h0 : 0 < l.length) : boxA (mirL l) = boxA l ∧ boxB (mirL l) = boxB l := by
  have h0' : 0 < (mirL l).length := by rw [mirL_len]; exact h0
  have hm : ∀ p, p ∈ mirL l ↔ p ∈ l.map mirXY := fun p => List.mem_reverse
  have a1 := (low_max1 _ h0').unique (((high_max1 l h0).map (f := fun p => -p.1) (k := mirXY) fun p => by simp [mirXY]).of_mem hm)
  have a2 := (low_max2 _ h0').unique (((low_max2 l h0).map (f := fun p => -p.2) (k := mirXY) fun p => by simp [mirXY]).of_mem hm)
  have a3 := (high_max1 _ h0').unique (((low_max1 l h0).map (f := fun p => p.1) (k := mirXY) fun p => by simp [mirXY]).of_mem hm)
  have a4 := (high_max2 _ h0').unique (((high_max2 l h0).map (f := fun p => p.2) (k := mirXY) fun p => by simp [mirXY]).of_mem hm)
  unfold boxA boxB; omega
end Go.Proofs.Ytflkhjicgojcbaa
