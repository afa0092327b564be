/- Plain: the best of the open values; how long what runs is. It imports nothing of the program. -/
import Derived.Test.YtghbipipehglfaaP1
import Derived.Test.YtghbipipehglfaaP3
namespace Go.Proofs.Ytghbipipehglfaa.Pl

theorem sprd_fold (w : Int) (hw : 0 ≤ w) (d : List Int) : ∀ st : List Int, ∀ s, s ∈ d.foldl (sprdW w hw).one st → s ∈ st ∨ s ∈ d := by
  induction d with
  | nil => intro st s hs; exact .inl hs
  | cons v d ih =>
    intro st s hs
    rcases ih _ s hs with h | h
    · unfold Way.one at h
      split at h
      · rcases List.mem_append.1 h with h | h
        · exact .inl h
        · right
          have : s = v := by simpa [sprdW] using h
          rw [this]; exact List.mem_cons_self ..
      · exact .inl h
    · exact .inr (List.mem_cons_of_mem _ h)
theorem sprd_all_mem {w : Int} {hw : 0 ≤ w} {d : List Int} {s : Int} (h : s ∈ (sprdW w hw).all d) : s ∈ d := by
  rcases sprd_fold w hw d [] s h with h | h
  · cases h
  · exact h
theorem Runs.len_le {A : Way} {vs st fin : List Int} (h : Runs A vs st fin) : st.length ≤ fin.length := by
  induction h with
  | done _ => exact Nat.le_refl _
  | step _ _ _ _ ih => simp at ih; omega

/-- the best of the first k values that are open -/
def bstK (P : Int → Bool) (gt : Int → Int → Bool) (vs : List Int) : Nat → Option Int
  | 0 => none
  | k + 1 => if P (vs.getD k 0) = true ∧ (∀ t, bstK P gt vs k = some t → gt (vs.getD k 0) t = true) then some (vs.getD k 0) else bstK P gt vs k
theorem bstK_none {P : Int → Bool} {gt : Int → Int → Bool} {vs : List Int} : ∀ {k : Nat}, bstK P gt vs k = none → ∀ i, i < k → P (vs.getD i 0) = false := by
  intro k
  induction k with
  | zero => intro _ i hi; omega
  | succ k ih =>
    intro h i hi
    unfold bstK at h
    split at h
    · cases h
    · rename_i hn
      have h0 := ih h
      by_cases e : i = k
      · subst e
        cases hp : P (vs.getD i 0) with
        | false => rfl
        | true => exact absurd ⟨hp, fun t ht => by rw [h] at ht; cases ht⟩ hn
      · exact h0 i (by omega)
theorem bstK_some {P : Int → Bool} {gt : Int → Int → Bool} (hir : ∀ a, gt a a = false) (hto : ∀ a b c, gt a b = false → gt c b = true → gt a c = false) {vs : List Int} : ∀ {k : Nat} {t : Int}, bstK P gt vs k = some t →
    (∃ i, i < k ∧ vs.getD i 0 = t) ∧ P t = true ∧ ∀ i, i < k → P (vs.getD i 0) = true → gt (vs.getD i 0) t = false := by
  intro k
  induction k with
  | zero => intro t h; cases h
  | succ k ih =>
    intro t h
    unfold bstK at h
    split at h
    · rename_i hc
      cases h
      refine ⟨⟨k, by omega, rfl⟩, hc.1, fun i hi hp => ?_⟩
      by_cases e : i = k
      · subst e; exact hir _
      · cases hb : bstK P gt vs k with
        | none => rw [bstK_none hb i (by omega)] at hp; cases hp
        | some t' => exact hto _ _ _ ((ih hb).2.2 i (by omega) hp) (hc.2 t' hb)
    · rename_i hn
      obtain ⟨⟨i, hi, he⟩, h2, h3⟩ := ih h
      refine ⟨⟨i, by omega, he⟩, h2, fun j hj hp => ?_⟩
      by_cases e : j = k
      · subst e
        cases hg : gt (vs.getD j 0) t with
        | false => rfl
        | true => exact absurd ⟨hp, fun t' ht' => by rw [h] at ht'; cases ht'; exact hg⟩ hn
      · exact h3 j (by omega) hp

/-- one round of the document's Stab: nothing is open, or the greatest -/
def sOpn (st : List Int) (v : Int) : Bool := match st.getLast? with | none => true | some a => decide (v < a)
def sGt (u t : Int) : Bool := decide (t < u)
theorem stab_none {w : Int} {hw : 0 ≤ w} {vs st fin : List Int} (hr : Runs (stabW w hw) vs st fin) (h : bstK (sOpn st) sGt vs vs.length = none) : fin = st :=
  hr.of_done fun v hv => by
    obtain ⟨i, hi, rfl⟩ := mem_getD hv
    exact bstK_none h i hi
theorem stab_some {w : Int} {hw : 0 ≤ w} {vs st fin : List Int} {t : Int} (hr : Runs (stabW w hw) vs st fin) (h : bstK (sOpn st) sGt vs vs.length = some t) : t ∈ vs ∧ Runs (stabW w hw) vs (st ++ [t - w]) fin := by
  obtain ⟨⟨i, hi, he⟩, h2, h3⟩ := bstK_some (by intro a; simp [sGt]) (by intro a b c h1 h2; simp [sGt] at *; omega) h
  have hm : t ∈ vs := he ▸ getD_mem hi
  refine ⟨hm, hr.of_step hm h2 fun u hu ho => ?_⟩
  obtain ⟨j, hj, rfl⟩ := mem_getD hu
  have := h3 j hj ho
  simp [sGt] at this
  simpa [stabW] using this
/-- one round of the document's Spread -/
def pOpn (w : Int) (st : List Int) (v : Int) : Bool := match st.getLast? with | none => true | some a => decide (a + w < v)
def pGt (u t : Int) : Bool := decide (u < t)
theorem sprd_none {w : Int} {hw : 0 ≤ w} {vs st fin : List Int} (hr : Runs (sprdW w hw) vs st fin) (h : bstK (pOpn w st) pGt vs vs.length = none) : fin = st :=
  hr.of_done fun v hv => by
    obtain ⟨i, hi, rfl⟩ := mem_getD hv
    exact bstK_none h i hi
theorem sprd_some {w : Int} {hw : 0 ≤ w} {vs st fin : List Int} {t : Int} (hr : Runs (sprdW w hw) vs st fin) (h : bstK (pOpn w st) pGt vs vs.length = some t) : t ∈ vs ∧ Runs (sprdW w hw) vs (st ++ [t]) fin := by
  obtain ⟨⟨i, hi, he⟩, h2, h3⟩ := bstK_some (by intro a; simp [pGt]) (by intro a b c h1 h2; simp [pGt] at *; omega) h
  have hm : t ∈ vs := he ▸ getD_mem hi
  refine ⟨hm, hr.of_step hm h2 fun u hu ho => ?_⟩
  obtain ⟨j, hj, rfl⟩ := mem_getD hu
  have := h3 j hj ho
  simp [pGt] at this
  simpa [sprdW] using this
end Go.Proofs.Ytghbipipehglfaa.Pl
