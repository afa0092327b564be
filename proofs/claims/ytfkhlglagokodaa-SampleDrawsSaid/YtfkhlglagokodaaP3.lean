/- Plain: plans, schemes, and how an inspection goes on from lot to lot. -/
import Derived.Test.YtfkhlglagokodaaP2
namespace Go.Proofs.Ytfkhlglagokodaa.Pl

/-- a scheme -/
structure Sc where
  n : Pn
  t : Pn
  r : Pn
def inB (a n b : Int) : Bool := decide (a ≤ n) && decide (n ≤ b)
theorem inB_iff {a n b : Int} : inB a n b = true ↔ a ≤ n ∧ n ≤ b := by unfold inB; simp
def vP (p : Pn) : Bool := inB 1 p.s 60 && inB 0 p.a (p.s - 1)
theorem vP_iff {p : Pn} : vP p = true ↔ 1 ≤ p.s ∧ p.s ≤ 60 ∧ 0 ≤ p.a ∧ p.a ≤ p.s - 1 := by unfold vP inB; simp [and_assoc]
def vS (S : Sc) : Bool := vP S.n && (vP S.t && (vP S.r && (decide (S.t.a ≤ S.n.a) && (decide (S.n.s ≤ S.t.s) && decide (S.r.s ≤ S.n.s)))))
theorem vS_iff {S : Sc} : vS S = true ↔ vP S.n = true ∧ vP S.t = true ∧ vP S.r = true ∧ S.t.a ≤ S.n.a ∧ S.n.s ≤ S.t.s ∧ S.r.s ≤ S.n.s := by unfold vS; simp
/-- the error, and whether a lot is accepted -/
def acE (p : Pn) (bad : Int) : Int := if vP p = true then (if 0 ≤ bad ∧ bad ≤ p.s then 0 else 2) else 50
def acV (p : Pn) (bad : Int) : Bool := decide (acE p bad = 0) && decide (bad ≤ p.a)
/-- the plan of a state -/
def pl (S : Sc) (st : Int) : Pn := if st = 2 then S.t else if st = 3 then S.r else S.n
theorem pl_ok {S : Sc} (h : vS S = true) (st : Int) : vP (pl S st) = true := by
  obtain ⟨h1, h2, h3, _⟩ := vS_iff.1 h
  unfold pl
  split
  · exact h2
  · split
    · exact h3
    · exact h1
/-- how many were refused; the last n -/
def rf (l : List Bool) : Nat := l.countP fun b => !b
def lst (n : Nat) (l : List Bool) : List Bool := l.drop (l.length - n)
theorem rf_le (l : List Bool) : rf l ≤ l.length := List.countP_le_length
theorem rf_append (l m : List Bool) : rf (l ++ m) = rf l + rf m := List.countP_append
theorem rf_one (b : Bool) : rf [b] = if b then 0 else 1 := by cases b <;> rfl
theorem lst_len (n : Nat) (l : List Bool) : (lst n l).length = min n l.length := by unfold lst; rw [List.length_drop]; omega
/-- the state behind lots since the state was entered -/
def nxt (st : Int) (l : List Bool) : Int :=
  if st = 1 then (if 2 ≤ rf (lst 5 l) then 2 else if 10 ≤ l.length ∧ rf (lst 10 l) = 0 then 3 else 1)
  else if st = 2 then (if 5 ≤ l.length ∧ rf (lst 5 l) = 0 then 1 else if 5 ≤ rf l then 4 else 2)
  else if st = 3 then (if 0 < rf l then 1 else 3) else st
/-- states in which lots are inspected or not -/
def Sta (st : Int) : Prop := st = 1 ∨ st = 2 ∨ st = 3 ∨ st = 4
theorem nxt_sta {st : Int} (h : Sta st) (l : List Bool) : Sta (nxt st l) := by
  unfold nxt
  rcases h with rfl | rfl | rfl | rfl <;> simp <;> (repeat' split) <;> simp [Sta]
/-- results: an error, the state, the lots -/
abbrev Res := Int × Int × List (Int × Bool)
def cat (o : List (Int × Bool)) (r : Res) : Res := if r.1 = 0 then (0, r.2.1, o ++ r.2.2) else (r.1, 0, [])
theorem cat_cat (o o' : List (Int × Bool)) (r : Res) : cat o (cat o' r) = cat (o ++ o') r := by
  obtain ⟨e, s, t⟩ := r
  unfold cat
  by_cases h : e = 0
  · simp [h]
  · simp [h]
/-- the lots since the state was entered -/
def snc (st : Int) (l : List Bool) : List Bool := if nxt st l ≠ st then [] else l
def hist (S : Sc) : Int → List Bool → List Int → Res
  | st, _, [] => (0, st, [])
  | st, l, x :: xs =>
    if st = 4 then (51, 0, []) else if acE (pl S st) x ≠ 0 then (acE (pl S st) x, 0, [])
    else cat [(st, acV (pl S st) x)] (hist S (nxt st (l ++ [acV (pl S st) x])) (snc st (l ++ [acV (pl S st) x])) xs)
/-- a whole history from a state on -/
def hs (S : Sc) (st : Int) (found : List Int) : Res := if vS S = true then (if found.length ≤ 200 then hist S st [] found else (4, 0, [])) else (50, 0, [])
theorem cat_nil {r : Res} (h : r.1 ≠ 0 → r.2 = (0, [])) : cat [] r = r := by
  obtain ⟨e, s, t⟩ := r
  unfold cat
  by_cases h0 : e = 0
  · simp [h0]
  · have := h h0
    simp [h0]
    cases this
    exact ⟨rfl, rfl⟩
theorem hist_err (S : Sc) : ∀ (found : List Int) (st : Int) (l : List Bool), (hist S st l found).1 ≠ 0 → (hist S st l found).2 = (0, []) := by
  intro found
  induction found with
  | nil => intro st l h; exact absurd rfl h
  | cons x xs ih =>
    intro st l h
    unfold hist at h ⊢
    by_cases h4 : st = 4
    · rw [if_pos h4]
    · rw [if_neg h4] at h ⊢
      by_cases h5 : acE (pl S st) x ≠ 0
      · rw [if_pos h5]
      · rw [if_neg h5] at h ⊢
        unfold cat at h ⊢
        by_cases h6 : (hist S (nxt st (l ++ [acV (pl S st) x])) (snc st (l ++ [acV (pl S st) x])) xs).1 = 0
        · rw [if_pos h6] at h; exact absurd rfl h
        · rw [if_neg h6]
theorem hs_err {S : Sc} {st : Int} {found : List Int} (h : (hs S st found).1 ≠ 0) : (hs S st found).2 = (0, []) := by
  unfold hs at h ⊢
  by_cases h1 : vS S = true
  · rw [if_pos h1] at h ⊢
    by_cases h2 : found.length ≤ 200
    · rw [if_pos h2] at h ⊢; exact hist_err S _ _ _ h
    · rw [if_neg h2]
  · rw [if_neg h1]
/-- restarted behind a stop -/
def rst (S : Sc) (found more : List Int) : Res :=
  if (hs S 1 found).1 ≠ 0 then ((hs S 1 found).1, 0, []) else if (hs S 1 found).2.1 ≠ 4 then (2, 0, []) else hs S 2 more
/-- under reduced inspection all were accepted -/
def Iv (st : Int) (l : List Bool) : Prop := st = 3 → rf l = 0
theorem snc_iv (st : Int) (l : List Bool) : Iv (nxt st l) (snc st l) := by
  intro h
  unfold snc
  by_cases e : nxt st l ≠ st
  · rw [if_pos e]; rfl
  · rw [if_neg e]
    have e : nxt st l = st := Decidable.not_not.1 e
    have hst : st = 3 := by rw [← e]; exact h
    subst hst
    unfold nxt at e
    by_cases h0 : 0 < rf l
    · simp [h0] at e
    · omega
theorem lst_all {n : Nat} {l : List Bool} (h : l.length ≤ n) : lst n l = l := by unfold lst; rw [show l.length - n = 0 from by omega]; rfl
theorem lst_one (l : List Bool) (b : Bool) : lst 1 (l ++ [b]) = [b] := by unfold lst; simp
/-- the chance of a plan: the error, the fraction -/
def Ce (p : Pn) (L b : Int) : Int := if vP p = true then (if inB p.s L 60 = true ∧ inB 0 b L = true then 0 else 2) else 50
def Cn (p : Pn) (L b : Int) : Nat := if Ce p L b = 0 then cn p.s.toNat p.a.toNat L.toNat b.toNat else 0
def Cd (p : Pn) (L b : Int) : Nat := if Ce p L b = 0 then cd p.s.toNat p.a.toNat L.toNat b.toNat else 0
theorem Ce_not {p : Pn} (h : vP p = false) (L b : Int) : Ce p L b = 50 ∧ Cn p L b = 0 ∧ Cd p L b = 0 := by
  have : Ce p L b = 50 := by unfold Ce; simp [h]
  unfold Cn Cd
  rw [this]
  exact ⟨rfl, rfl, rfl⟩
theorem Ce_bad {p : Pn} (h : vP p = true) {L b : Int} (h2 : ¬ (inB p.s L 60 = true ∧ inB 0 b L = true)) : Ce p L b = 2 ∧ Cn p L b = 0 ∧ Cd p L b = 0 := by
  have : Ce p L b = 2 := by unfold Ce; rw [if_pos h, if_neg h2]
  unfold Cn Cd
  rw [this]
  exact ⟨rfl, rfl, rfl⟩
theorem Ce_ok {p : Pn} {L b : Int} (h : vP p = true) (h2 : inB p.s L 60 = true) (h3 : inB 0 b L = true) :
    ∃ s a l c : Nat, p = ⟨s, a⟩ ∧ L = l ∧ b = c ∧ l ≤ 60 ∧ c ≤ l ∧ s ≤ l ∧ a < s ∧ Ce p L b = 0 ∧ Cn p L b = cn s a l c ∧ Cd p L b = cd s a l c := by
  have h0 : Ce p L b = 0 := by unfold Ce; rw [if_pos h, if_pos ⟨h2, h3⟩]
  obtain ⟨p1, p2⟩ := p
  have h1 := vP_iff.1 h
  have h2 := inB_iff.1 h2
  have h3 := inB_iff.1 h3
  dsimp only at h1 h2
  obtain ⟨s, rfl⟩ : ∃ s : Nat, p1 = s := ⟨p1.toNat, by omega⟩
  obtain ⟨a, rfl⟩ : ∃ s : Nat, p2 = s := ⟨p2.toNat, by omega⟩
  obtain ⟨l, rfl⟩ : ∃ s : Nat, L = s := ⟨L.toNat, by omega⟩
  obtain ⟨c, rfl⟩ : ∃ s : Nat, b = s := ⟨b.toNat, by omega⟩
  refine ⟨s, a, l, c, rfl, rfl, rfl, by omega, by omega, by omega, by omega, h0, ?_, ?_⟩
  · unfold Cn; rw [if_pos h0]; rfl
  · unfold Cd; rw [if_pos h0]; rfl
end Go.Proofs.Ytfkhlglagokodaa.Pl
