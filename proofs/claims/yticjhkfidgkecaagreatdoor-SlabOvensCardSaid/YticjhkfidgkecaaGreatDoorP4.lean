/- Plain: sizes in an oven. It imports nothing of the program. -/
namespace Go.Proofs.YticjhkfidgkecaaGreatDoor.Pl

/-- one day: the size s shrinks by n of 100000 parts -/
def sh (s n : Int) : Int := s * (100000 - n) / 100000
/-- the size s after k days of the table t -/
def sea (s : Int) (t : List Int) (k : Nat) : Int := (t.take k).foldl sh s
/-- a table that is good -/
def OkT (t : List Int) : Prop := ∀ n, n ∈ t → 0 ≤ n ∧ n ≤ 50000

theorem sh_bd {s n : Int} (hs : 0 ≤ s) (hn : 0 ≤ n ∧ n ≤ 50000) : 0 ≤ sh s n ∧ sh s n ≤ s ∧ 0 ≤ s * (100000 - n) ∧ s * (100000 - n) ≤ s * 100000 := by
  have h1 : 0 ≤ s * (100000 - n) := Int.mul_nonneg hs (by omega)
  have h2 : s * (100000 - n) ≤ s * 100000 := Int.mul_le_mul_of_nonneg_left (by omega) hs
  unfold sh; omega
theorem sh_mono {s s' n : Int} (h : s ≤ s') (hn : 0 ≤ n ∧ n ≤ 50000) : sh s n ≤ sh s' n := by
  have h2 : s * (100000 - n) ≤ s' * (100000 - n) := Int.mul_le_mul_of_nonneg_right h (by omega)
  unfold sh; omega
theorem sea_zero (s : Int) (t : List Int) : sea s t 0 = s := by simp [sea]
theorem sea_succ (s : Int) (t : List Int) (k : Nat) (hk : k < t.length) : sea s t (k + 1) = sh (sea s t k) t[k] := by
  unfold sea
  rw [List.take_succ_eq_append_getElem hk, List.foldl_append]; rfl
theorem sea_over (s : Int) (t : List Int) (k : Nat) (hk : t.length ≤ k) : sea s t k = sea s t t.length := by
  unfold sea
  rw [List.take_of_length_le hk, List.take_of_length_le (Nat.le_refl _)]
theorem sea_min (s : Int) (t : List Int) (k : Nat) : sea s t (min k t.length) = sea s t k := by
  rcases Nat.le_total k t.length with h | h
  · rw [Nat.min_eq_left h]
  · rw [Nat.min_eq_right h, sea_over s t k h]
theorem fold_bd : ∀ (l : List Int) (s : Int), OkT l → 0 ≤ s → 0 ≤ l.foldl sh s ∧ l.foldl sh s ≤ s
  | [], s, _, h => ⟨h, Int.le_refl _⟩
  | n :: l, s, ho, h => by
    have hn := ho n (by simp)
    have hb := sh_bd h hn
    have := fold_bd l (sh s n) (fun x hx => ho x (by simp [hx])) hb.1
    simp only [List.foldl_cons]
    omega
theorem fold_mono : ∀ (l : List Int) (s s' : Int), OkT l → s ≤ s' → l.foldl sh s ≤ l.foldl sh s'
  | [], _, _, _, h => h
  | n :: l, s, s', ho, h => fold_mono l _ _ (fun x hx => ho x (by simp [hx])) (sh_mono h (ho n (by simp)))
theorem OkT.take {t : List Int} (h : OkT t) (k : Nat) : OkT (t.take k) := fun n hn => h n (List.mem_of_mem_take hn)
theorem sea_bd {s : Int} {t : List Int} (k : Nat) (h : OkT t) (hs : 0 ≤ s) : 0 ≤ sea s t k ∧ sea s t k ≤ s := fold_bd _ _ (h.take k) hs
theorem sea_mono {s s' : Int} {t : List Int} (k : Nat) (h : OkT t) (hs : s ≤ s') : sea s t k ≤ sea s' t k := fold_mono _ _ _ (h.take k) hs
theorem sea_next {s : Int} {t : List Int} (k : Nat) (h : OkT t) (hs : 0 ≤ s) : sea s t (k + 1) ≤ sea s t k := by
  rcases Nat.lt_or_ge k t.length with hk | hk
  · rw [sea_succ s t k hk]
    exact (sh_bd (sea_bd k h hs).1 (h _ (List.getElem_mem hk))).2.1
  · rw [sea_over s t k hk, sea_over s t (k + 1) (by omega)]; exact Int.le_refl _
/-- the first fault of a call: 4, 2, or none -/
def ovE (t : List Int) (ok : Bool) : Int := if 60 < t.length then 4 else if ok && t.all (fun n => decide (0 ≤ n ∧ n ≤ 50000)) then 0 else 2
theorem ovE_zero {t : List Int} {ok : Bool} (h : ovE t ok = 0) : OkT t ∧ ok = true ∧ t.length ≤ 60 := by
  unfold ovE at h
  split at h
  · omega
  · split at h
    · rename_i h1 h2
      simp only [Bool.and_eq_true, List.all_eq_true, decide_eq_true_eq] at h2
      exact ⟨h2.2, h2.1, by omega⟩
    · omega
theorem ovE_of {t : List Int} {ok : Bool} (h : OkT t) (ho : ok = true) (hl : t.length ≤ 60) : ovE t ok = 0 := by
  unfold ovE
  rw [if_neg (by omega), if_pos (by simp only [Bool.and_eq_true, List.all_eq_true, decide_eq_true_eq]; exact ⟨ho, h⟩)]
theorem ovE_and (t : List Int) (ok : Bool) : (ovE t true = 0 → ovE t ok = if ok then 0 else 2) ∧ (ovE t true ≠ 0 → ovE t ok = ovE t true) := by
  unfold ovE
  cases ok
  · constructor
    · intro h; split at h
      · omega
      · rw [if_neg (by assumption)]; rfl
    · intro h; split
      · rfl
      · rename_i h1
        rw [if_neg h1] at h
        split at h
        · omega
        · rename_i h2; rw [if_neg h2]; rfl
  · exact ⟨fun h => h, fun _ => rfl⟩
def siz (n : Int) : Bool := decide (1 ≤ n ∧ n ≤ 100000)
def wai (d : Int) : Bool := decide (0 ≤ d ∧ d ≤ 1000)
def seE (n : Int) (t : List Int) (d : Int) : Int := ovE t (siz n && wai d)
def seV (n : Int) (t : List Int) (d : Int) : Int := if seE n t d = 0 then sea n t d.toNat else 0
def rdE (n : Int) (t : List Int) (l : Int) : Int := ovE t (siz n && decide (0 ≤ l))
theorem seE_zero {n : Int} {t : List Int} {d : Int} (h : seE n t d = 0) : OkT t ∧ (1 ≤ n ∧ n ≤ 100000) ∧ (0 ≤ d ∧ d ≤ 1000) ∧ t.length ≤ 60 := by
  obtain ⟨h1, h2, h3⟩ := ovE_zero h
  simp only [siz, wai, Bool.and_eq_true, decide_eq_true_eq] at h2
  exact ⟨h1, h2.1, h2.2, h3⟩
theorem rdE_zero {n : Int} {t : List Int} {l : Int} (h : rdE n t l = 0) : OkT t ∧ (1 ≤ n ∧ n ≤ 100000) ∧ 0 ≤ l ∧ t.length ≤ 60 := by
  obtain ⟨h1, h2, h3⟩ := ovE_zero h
  simp only [siz, Bool.and_eq_true, decide_eq_true_eq] at h2
  exact ⟨h1, h2.1, h2.2, h3⟩
theorem seE_of {n : Int} {t : List Int} {d : Int} (h : OkT t) (hn : 1 ≤ n ∧ n ≤ 100000) (hd : 0 ≤ d ∧ d ≤ 1000) (hl : t.length ≤ 60) : seE n t d = 0 :=
  ovE_of h (by simp [siz, wai, hn, hd]) hl
theorem ovE_val (t : List Int) (ok : Bool) : ovE t ok = 0 ∨ ovE t ok = 2 ∨ ovE t ok = 4 := by
  unfold ovE; split
  · exact .inr (.inr rfl)
  · split
    · exact .inl rfl
    · exact .inr (.inl rfl)
/-- the first size from p on, at most q - 1, of which w is left -/
def frm (w : Int) (t : List Int) (k : Nat) : Nat → Nat → Option Nat
  | _, 0 => none
  | p, f + 1 => if w ≤ sea (p : Int) t k then some p else frm w t k (p + 1) f
theorem frm_some {w : Int} {t : List Int} {k : Nat} : ∀ (f p r : Nat), frm w t k p f = some r → p ≤ r ∧ r < p + f ∧ w ≤ sea (r : Int) t k ∧ ∀ j : Nat, p ≤ j → j < r → sea (j : Int) t k < w
  | 0, p, r, h => by cases h
  | f + 1, p, r, h => by
    unfold frm at h
    split at h
    · rename_i hw
      cases h
      exact ⟨Nat.le_refl _, by omega, hw, fun j _ _ => by omega⟩
    · rename_i hw
      obtain ⟨a, b, c, d⟩ := frm_some f (p + 1) r h
      refine ⟨by omega, by omega, c, fun j h1 h2 => ?_⟩
      by_cases e : j = p
      · subst e; omega
      · exact d j (by omega) h2
theorem frm_none {w : Int} {t : List Int} {k : Nat} : ∀ (f p : Nat), frm w t k p f = none → ∀ j : Nat, p ≤ j → j < p + f → sea (j : Int) t k < w
  | 0, p, _, j, _, _ => by omega
  | f + 1, p, h, j, h1, h2 => by
    unfold frm at h
    split at h
    · cases h
    · rename_i hw
      by_cases e : j = p
      · subst e; omega
      · exact frm_none f (p + 1) h j (by omega) (by omega)
/-- what Allowance answers, without faults -/
def alw (w : Int) (t : List Int) (k : Nat) : Option Nat := frm w t k 1 100000
theorem alw_eq {w : Int} {t : List Int} {k r : Nat} (h1 : 1 ≤ r) (h2 : r ≤ 100000) (h3 : w ≤ sea (r : Int) t k) (h4 : ∀ j : Nat, 1 ≤ j → j < r → sea (j : Int) t k < w) : alw w t k = some r := by
  unfold alw
  cases h : frm w t k 1 100000 with
  | none => have := frm_none _ _ h r h1 (by omega); omega
  | some q =>
    obtain ⟨a, b, c, d⟩ := frm_some _ _ _ h
    rcases Nat.lt_trichotomy q r with e | e | e
    · have := h4 q a e; omega
    · rw [e]
    · have := d r h1 e; omega
theorem alw_no {w : Int} {t : List Int} {k : Nat} (h : ∀ j : Nat, 1 ≤ j → j ≤ 100000 → sea (j : Int) t k < w) : alw w t k = none := by
  unfold alw
  cases e : frm w t k 1 100000 with
  | none => rfl
  | some q =>
    obtain ⟨a, b, c, d⟩ := frm_some _ _ _ e
    have := h q a (by omega); omega
def alE (w : Int) (t : List Int) (d : Int) : Int := if seE w t d = 0 then (match alw w t d.toNat with | some _ => 0 | none => 5) else seE w t d
def alV (w : Int) (t : List Int) (d : Int) : Int := if seE w t d = 0 then (match alw w t d.toNat with | some r => (r : Int) | none => 0) else 0
/-- the first day from k on, of at most f more, from which on the size shrinks by at most l -/
def fdy (n : Int) (t : List Int) (l : Int) : Nat → Nat → Nat
  | k, 0 => k
  | k, f + 1 => if l < sea n t k - sea n t t.length then fdy n t l (k + 1) f else k
/-- what Ready answers, without faults -/
def rdy (n : Int) (t : List Int) (l : Int) : Nat := fdy n t l 0 t.length
theorem fdy_spec {n : Int} {t : List Int} {l : Int} (hl : 0 ≤ l) : ∀ (f k : Nat), k + f = t.length → k ≤ fdy n t l k f ∧ fdy n t l k f ≤ t.length ∧ sea n t (fdy n t l k f) - sea n t t.length ≤ l ∧ ∀ j, k ≤ j → j < fdy n t l k f → l < sea n t j - sea n t t.length
  | 0, k, h => by
    have : k = t.length := by omega
    unfold fdy
    subst this
    exact ⟨Nat.le_refl _, Nat.le_refl _, by omega, fun j _ _ => by omega⟩
  | f + 1, k, h => by
    unfold fdy
    split
    · rename_i hw
      obtain ⟨a, b, c, d⟩ := fdy_spec (n := n) (t := t) hl f (k + 1) (by omega)
      refine ⟨by omega, b, c, fun j h1 h2 => ?_⟩
      by_cases e : j = k
      · subst e; exact hw
      · exact d j (by omega) h2
    · rename_i hw
      exact ⟨Nat.le_refl _, by omega, by omega, fun j _ _ => by omega⟩
theorem rdy_spec {n : Int} {t : List Int} {l : Int} (hl : 0 ≤ l) : rdy n t l ≤ t.length ∧ sea n t (rdy n t l) - sea n t t.length ≤ l ∧ ∀ j, j < rdy n t l → l < sea n t j - sea n t t.length := by
  obtain ⟨-, b, c, d⟩ := fdy_spec (n := n) (t := t) hl t.length 0 (by omega)
  exact ⟨b, c, fun j h => d j (by omega) h⟩
theorem rdy_eq {n : Int} {t : List Int} {l : Int} (hl : 0 ≤ l) {d : Nat} (h1 : sea n t d - sea n t t.length ≤ l) (h2 : ∀ j, j < d → l < sea n t j - sea n t t.length) : d = rdy n t l := by
  obtain ⟨b, c, e⟩ := rdy_spec (n := n) (t := t) hl
  rcases Nat.lt_trichotomy d (rdy n t l) with q | q | q
  · have := e d q; omega
  · exact q
  · have := h2 _ q; omega
def rdV (n : Int) (t : List Int) (l : Int) : Int := if rdE n t l = 0 then (rdy n t l : Int) else 0
end Go.Proofs.YticjhkfidgkecaaGreatDoor.Pl
