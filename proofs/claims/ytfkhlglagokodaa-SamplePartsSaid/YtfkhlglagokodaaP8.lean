/- Plain: parts of a history. -/
import Derived.Test.YtfkhlglagokodaaP6
namespace Go.Proofs.Ytfkhlglagokodaa.Pl

theorem hist_cons_ok {S : Sc} {st s : Int} {l : List Bool} {x : Int} {zs : List Int} {out : List (Int × Bool)} (h : hist S st l (x :: zs) = (0, s, out)) :
    st ≠ 4 ∧ acE (pl S st) x = 0 ∧ ∃ t, out = (st, acV (pl S st) x) :: t ∧ hist S (nxt st (l ++ [acV (pl S st) x])) (snc st (l ++ [acV (pl S st) x])) zs = (0, s, t) := by
  unfold hist at h
  by_cases h4 : st = 4
  · rw [if_pos h4] at h; cases h
  rw [if_neg h4] at h
  by_cases hE : acE (pl S st) x ≠ 0
  · rw [if_pos hE] at h; injection h with h1 _; exact absurd h1 hE
  rw [if_neg hE] at h
  obtain ⟨e, s', t', hr⟩ : ∃ e s' t', hist S (nxt st (l ++ [acV (pl S st) x])) (snc st (l ++ [acV (pl S st) x])) zs = (e, s', t') := ⟨_, _, _, rfl⟩
  rw [hr] at h
  unfold cat at h
  by_cases he : e = 0
  · subst he
    rw [if_pos rfl] at h
    injection h with _ h
    injection h with h1 h2
    dsimp only at h1 h2
    subst h1
    exact ⟨h4, Decidable.not_not.1 hE, t', h2.symm, hr⟩
  · rw [if_neg he] at h
    injection h with h1 _
    exact absurd h1 he
theorem hist_cons_mk {S : Sc} {st s : Int} {l : List Bool} {x : Int} {zs : List Int} {e : Int} {t : List (Int × Bool)} (h4 : st ≠ 4) (hE : acE (pl S st) x = 0)
    (h : hist S (nxt st (l ++ [acV (pl S st) x])) (snc st (l ++ [acV (pl S st) x])) zs = (e, s, t)) : hist S st l (x :: zs) = cat [(st, acV (pl S st) x)] (e, s, t) := by
  conv => lhs; unfold hist
  rw [if_neg h4, if_neg (by simpa using hE), h]
theorem hist_pre {S : Sc} : ∀ {zs : List Int} {st s : Int} {l : List Bool} {out : List (Int × Bool)}, hist S st l zs = (0, s, out) →
    out.length = zs.length ∧ ∀ k, k ≤ zs.length → ∃ m, hist S st l (zs.take k) = (0, m, out.take k) ∧ (∀ (h : k < out.length), out[k].1 = m) := by
  intro zs
  induction zs with
  | nil =>
    intro st s l out h
    unfold hist at h
    injection h with _ h
    injection h with h1 h2
    subst h1 h2
    refine ⟨rfl, fun k hk => ⟨st, ?_, fun h => absurd h (Nat.not_lt_zero _)⟩⟩
    rw [List.take_nil, List.take_nil]
    rfl
  | cons x zs ih =>
    intro st s l out h
    obtain ⟨h4, hE, t, rfl, hr⟩ := hist_cons_ok h
    obtain ⟨i1, i2⟩ := ih hr
    refine ⟨by simp [i1], fun k hk => ?_⟩
    cases k with
    | zero => exact ⟨st, rfl, fun _ => rfl⟩
    | succ k =>
      obtain ⟨m, j1, j2⟩ := i2 k (by simpa using hk)
      refine ⟨m, ?_, fun h => ?_⟩
      · rw [List.take_succ_cons, List.take_succ_cons, hist_cons_mk h4 hE j1]
        rfl
      · exact j2 (by simpa using h)
/-- how many lots were refused -/
def ro (out : List (Int × Bool)) : Nat := out.countP fun p => !p.2
theorem nxt_four {st : Int} {l : List Bool} (h : nxt st l = 4) (h4 : st ≠ 4) : 5 ≤ rf l := by
  unfold nxt at h
  by_cases h1 : st = 1
  · rw [if_pos h1] at h
    split at h
    · cases h
    · split at h <;> cases h
  rw [if_neg h1] at h
  by_cases h2 : st = 2
  · rw [if_pos h2] at h
    split at h
    · cases h
    · split at h
      · assumption
      · cases h
  rw [if_neg h2] at h
  by_cases h3 : st = 3
  · rw [if_pos h3] at h; split at h <;> cases h
  · rw [if_neg h3] at h; exact absurd h h4
theorem hist_stopped {S : Sc} : ∀ {zs : List Int} {st : Int} {l : List Bool} {out : List (Int × Bool)}, hist S st l zs = (0, 4, out) → st ≠ 4 → 5 ≤ rf l + ro out := by
  intro zs
  induction zs with
  | nil =>
    intro st l out h h4
    unfold hist at h
    injection h with _ h
    injection h with h1 _
    exact absurd h1 h4
  | cons x zs ih =>
    intro st l out h _
    obtain ⟨h4, hE, t, rfl, hr⟩ := hist_cons_ok h
    have e1 : ro ((st, acV (pl S st) x) :: t) = rf [acV (pl S st) x] + ro t := by
      unfold ro rf
      rw [List.countP_cons, List.countP_cons, List.countP_nil]
      generalize acV (pl S st) x = b
      generalize List.countP (fun p : Int × Bool => !p.2) t = c
      cases b
      · show c + 1 = 0 + 1 + c; omega
      · show c + 0 = 0 + 0 + c; omega
    have e2 : rf (l ++ [acV (pl S st) x]) = rf l + rf [acV (pl S st) x] := rf_append _ _
    rw [e1]
    by_cases hn : nxt st (l ++ [acV (pl S st) x]) = 4
    · have := nxt_four hn h4
      omega
    · have := ih hr hn
      have h5 : rf (snc st (l ++ [acV (pl S st) x])) ≤ rf (l ++ [acV (pl S st) x]) := by
        unfold snc
        split
        · exact Nat.zero_le _
        · exact Nat.le_refl _
      omega
/-- one lot more -/
theorem hist_more {S : Sc} (x : Int) : ∀ {zs : List Int} {st s : Int} {l : List Bool} {out : List (Int × Bool)}, hist S st l zs = (0, s, out) →
    (hist S st l (zs ++ [x])).1 = if s = 4 then 51 else acE (pl S s) x := by
  intro zs
  induction zs with
  | nil =>
    intro st s l out h
    unfold hist at h
    injection h with _ h
    injection h with h1 _
    subst h1
    show (hist S st l [x]).1 = _
    unfold hist
    by_cases h4 : st = 4
    · rw [if_pos h4, if_pos h4]
    · rw [if_neg h4, if_neg h4]
      by_cases hE : acE (pl S st) x ≠ 0
      · rw [if_pos hE]
      · rw [if_neg hE]
        have : acE (pl S st) x = 0 := Decidable.not_not.1 hE
        rw [this]
        rfl
  | cons y zs ih =>
    intro st s l out h
    obtain ⟨h4, hE, t, rfl, hr⟩ := hist_cons_ok h
    have hi := ih hr
    obtain ⟨e, s', t', hr'⟩ : ∃ e s' t', hist S (nxt st (l ++ [acV (pl S st) y])) (snc st (l ++ [acV (pl S st) y])) (zs ++ [x]) = (e, s', t') := ⟨_, _, _, rfl⟩
    rw [hr'] at hi
    rw [List.cons_append, hist_cons_mk h4 hE hr', ← hi]
    unfold cat
    by_cases he : e = 0
    · rw [if_pos he]; exact he.symm
    · rw [if_neg he]
theorem hs_ok {S : Sc} {xs : List Int} (h : (hs S 1 xs).1 = 0) : vS S = true ∧ xs.length ≤ 200 ∧ hist S 1 [] xs = hs S 1 xs := by
  unfold hs at h ⊢
  by_cases h1 : vS S = true
  · rw [if_pos h1] at h ⊢
    by_cases h2 : xs.length ≤ 200
    · rw [if_pos h2]; exact ⟨h1, h2, rfl⟩
    · rw [if_neg h2] at h; cases h
  · rw [if_neg h1] at h; cases h
theorem hs_mk {S : Sc} {xs : List Int} (h1 : vS S = true) (h2 : xs.length ≤ 200) : hs S 1 xs = hist S 1 [] xs := by
  unfold hs; rw [if_pos h1, if_pos h2]
theorem acE_zero {p : Pn} (h : vP p = true) : acE p 0 = 0 := by
  have := vP_iff.1 h
  unfold acE
  rw [if_pos h, if_pos (by omega)]
end Go.Proofs.Ytfkhlglagokodaa.Pl
