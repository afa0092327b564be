/- Plain: how states follow each other in a history. -/
import Derived.Test.YtfkhlglagokodaaP3
namespace Go.Proofs.Ytfkhlglagokodaa.Pl

theorem hist_un {S : Sc} {st s : Int} {l : List Bool} {zs : List Int} {p : Int × Bool} {t : List (Int × Bool)} (h : hist S st l zs = (0, s, p :: t)) :
    st ≠ 4 ∧ p.1 = st ∧ ∃ zs', hist S (nxt st (l ++ [p.2])) (snc st (l ++ [p.2])) zs' = (0, s, t) := by
  cases zs with
  | nil => unfold hist at h; injection h with _ h; injection h with _ h; cases h
  | cons x zs =>
    unfold hist at h
    by_cases h4 : st = 4
    · rw [if_pos h4] at h; cases h
    rw [if_neg h4] at h
    by_cases hE : acE (pl S st) x ≠ 0
    · rw [if_pos hE] at h; injection h with h1 _; exact absurd h1 hE
    rw [if_neg hE] at h
    generalize acV (pl S st) x = b at h
    obtain ⟨e, s', t', hr⟩ : ∃ e s' t', hist S (nxt st (l ++ [b])) (snc st (l ++ [b])) zs = (e, s', t') := ⟨_, _, _, rfl⟩
    rw [hr] at h
    unfold cat at h
    by_cases he : e = 0
    · subst he
      rw [if_pos rfl] at h
      injection h with _ h
      injection h with h1 h2
      dsimp only at h1 h2
      subst h1
      rw [List.singleton_append] at h2
      injection h2 with h3 h4'
      subst h3 h4'
      exact ⟨h4, rfl, zs, hr⟩
    · rw [if_neg he] at h
      injection h with h1 _
      exact absurd h1 he
theorem hist_fin {S : Sc} {st s : Int} {l : List Bool} {zs : List Int} (h : hist S st l zs = (0, s, [])) : s = st := by
  cases zs with
  | nil => unfold hist at h; injection h with _ h; injection h with h _; exact h.symm
  | cons x zs =>
    unfold hist at h
    by_cases h4 : st = 4
    · rw [if_pos h4] at h; cases h
    rw [if_neg h4] at h
    by_cases hE : acE (pl S st) x ≠ 0
    · rw [if_pos hE] at h; injection h with h1 _; exact absurd h1 hE
    rw [if_neg hE] at h
    unfold cat at h
    split at h
    · injection h with _ h
      injection h with _ h
      rw [List.singleton_append] at h
      cases h
    · rename_i he
      injection h with h1 _
      exact absurd h1 he
/-- what is carried along: under normal inspection at most one of the last five was refused -/
def J1 (st : Int) (l : List Bool) : Prop := st = 1 → rf (lst 5 l) ≤ 1
theorem nxt_norm {l : List Bool} (h : nxt 1 l = 1) : rf (lst 5 l) ≤ 1 := by
  unfold nxt at h
  rw [if_pos rfl] at h
  by_cases c : 2 ≤ rf (lst 5 l)
  · rw [if_pos c] at h; cases h
  · omega
theorem J1_next (st : Int) (l : List Bool) : J1 (nxt st l) (snc st l) := by
  intro h
  by_cases e : nxt st l = st
  · have e2 : snc st l = l := if_neg (by simpa using e)
    rw [e2]
    have h1 : st = 1 := by rw [← e]; exact h
    subst h1
    exact nxt_norm e
  · have e2 : snc st l = [] := if_pos e
    rw [e2]
    show rf (lst 5 []) ≤ 1
    decide
theorem rf_take (l : List Bool) (D : Nat) : rf (l.drop D) ≤ rf l := by
  conv => rhs; rw [← List.take_append_drop D l]
  rw [rf_append]
  omega
theorem lst_snoc (n : Nat) (l : List Bool) (b : Bool) : lst (n + 1) (l ++ [b]) = lst n l ++ [b] := by
  unfold lst
  rw [List.length_append, List.length_singleton, show l.length + 1 - (n + 1) = l.length - n from by omega]
  rw [List.drop_append_of_le_length (by omega)]
theorem lst_more (n : Nat) (l : List Bool) : rf (lst n l) ≤ rf (lst (n + 1) l) := by
  unfold lst
  have : l.drop (l.length - n) = (l.drop (l.length - (n + 1))).drop (l.length - n - (l.length - (n + 1))) := by
    rw [List.drop_drop]
    congr 1
    omega
  rw [this]
  exact rf_take _ _
/-- an accepted lot under normal inspection -/
theorem norm_acc {l : List Bool} (h : J1 1 l) : nxt 1 (l ++ [true]) = 1 ∨ nxt 1 (l ++ [true]) = 3 := by
  have h1 := h rfl
  have h2 : rf (lst 5 (l ++ [true])) ≤ 1 := by
    rw [lst_snoc, rf_append]
    have h5 : rf (lst 4 l) ≤ rf (lst 5 l) := lst_more 4 l
    have e : rf [true] = 0 := rfl
    omega
  unfold nxt
  rw [if_pos rfl, if_neg (by omega)]
  split
  · exact .inr rfl
  · exact .inl rfl
theorem red_ref {l : List Bool} : nxt 3 (l ++ [false]) = 1 := by
  unfold nxt
  rw [if_neg (by decide), if_neg (by decide), if_pos rfl, if_pos]
  rw [rf_append]
  have : rf [false] = 1 := rfl
  omega
/-- how many were accepted -/
def ac (l : List Bool) : Nat := l.length - rf l
theorem ac_nil : ac [] = 0 := rfl
theorem ac_snoc (l : List Bool) (b : Bool) : ac (l ++ [b]) = ac l + (if b then 1 else 0) := by
  unfold ac
  rw [rf_append, List.length_append]
  have := rf_le l
  cases b
  · show l.length + 1 - (rf l + 1) = l.length - rf l + 0; omega
  · show l.length + 1 - (rf l + 0) = l.length - rf l + 1; omega
/-- since the last refused lot under reduced inspection: enough were accepted -/
def J2 (st : Int) (l : List Bool) (good : Nat) : Prop := ac l ≤ good ∧ (st = 3 → 10 ≤ good)
theorem ten_ac {l : List Bool} (h1 : 10 ≤ l.length) (h2 : rf (lst 10 l) = 0) : 10 ≤ ac l := by
  unfold ac
  have h3 : rf l = rf (l.take (l.length - 10)) + rf (lst 10 l) := by
    conv => lhs; rw [← List.take_append_drop (l.length - 10) l]
    rw [rf_append]; rfl
  have h4 := rf_le (l.take (l.length - 10))
  rw [List.length_take] at h4
  omega
theorem nxt_red {st : Int} {l : List Bool} (h : nxt st l = 3) : st = 3 ∨ (st = 1 ∧ 10 ≤ l.length ∧ rf (lst 10 l) = 0) := by
  unfold nxt at h
  by_cases h1 : st = 1
  · subst h1
    rw [if_pos rfl] at h
    by_cases c : 2 ≤ rf (lst 5 l)
    · rw [if_pos c] at h; cases h
    rw [if_neg c] at h
    by_cases d : 10 ≤ l.length ∧ rf (lst 10 l) = 0
    · exact .inr ⟨rfl, d⟩
    · rw [if_neg d] at h; cases h
  rw [if_neg h1] at h
  by_cases h2 : st = 2
  · rw [if_pos h2] at h
    by_cases c : 5 ≤ l.length ∧ rf (lst 5 l) = 0
    · rw [if_pos c] at h; cases h
    rw [if_neg c] at h
    split at h <;> cases h
  rw [if_neg h2] at h
  by_cases h3 : st = 3
  · exact .inl h3
  · rw [if_neg h3] at h; exact .inl h
theorem J2_next {st : Int} {l : List Bool} {good : Nat} (b : Bool) (h : J2 st l good) : J2 (nxt st (l ++ [b])) (snc st (l ++ [b])) (good + (if b then 1 else 0)) := by
  obtain ⟨h1, h2⟩ := h
  have h3 : ac (l ++ [b]) ≤ good + (if b then 1 else 0) := by rw [ac_snoc]; omega
  refine ⟨?_, fun e => ?_⟩
  · unfold snc
    split
    · rw [ac_nil]; exact Nat.zero_le _
    · exact h3
  · rcases nxt_red e with e | ⟨_, e1, e2⟩
    · have := h2 e; omega
    · exact Nat.le_trans (ten_ac e1 e2) h3
theorem J2_zero {st : Int} {l : List Bool} (b : Bool) (h : nxt st (l ++ [b]) = 1) (h3 : st = 3) : J2 (nxt st (l ++ [b])) (snc st (l ++ [b])) 0 := by
  have e : snc st (l ++ [b]) = [] := if_pos (by rw [h, h3]; decide)
  rw [e]
  exact ⟨Nat.le_refl _, fun e' => by rw [h] at e'; cases e'⟩
end Go.Proofs.Ytfkhlglagokodaa.Pl
