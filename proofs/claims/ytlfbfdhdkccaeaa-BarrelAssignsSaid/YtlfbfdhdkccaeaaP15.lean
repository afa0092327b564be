/- Plain: which barrel is free first; the runs that are given to barrels. -/
import Derived.Test.YtlfbfdhdkccaeaaP8
import Derived.Test.YtlfbfdhdkccaeaaP11
namespace Go.Proofs.Ytlfbfdhdkccaeaa.Pl

/-- the first of the least -/
def fm (f : Nat → Int) : Nat → Nat
  | 0 => 0
  | k + 1 => if f k < f (fm f k) then k else fm f k
theorem fm_spec (f : Nat → Int) : ∀ n, 0 < n → fm f n < n ∧ (∀ q, q < n → f (fm f n) ≤ f q) ∧ ∀ q, q < fm f n → f (fm f n) < f q
  | 1, _ => by
    have e : fm f 1 = 0 := by unfold fm; split <;> rfl
    rw [e]
    exact ⟨by omega, fun q hq => by obtain rfl : q = 0 := by omega
                                    exact Int.le_refl _, fun q hq => absurd hq (Nat.not_lt_zero _)⟩
  | n + 2, _ => by
    obtain ⟨h1, h2, h3⟩ := fm_spec f (n + 1) (by omega)
    rw [show fm f (n + 2) = if f (n + 1) < f (fm f (n + 1)) then n + 1 else fm f (n + 1) from rfl]
    split
    · rename_i h
      refine ⟨by omega, fun q hq => ?_, fun q hq => ?_⟩
      · rcases Nat.lt_succ_iff_lt_or_eq.1 hq with h' | rfl
        · have := h2 q h'; omega
        · exact Int.le_refl _
      · have := h2 q (by omega); omega
    · rename_i h
      refine ⟨by omega, fun q hq => ?_, h3⟩
      rcases Nat.lt_succ_iff_lt_or_eq.1 hq with h' | rfl
      · exact h2 q h'
      · omega
/-- the least value -/
def mv (f : Nat → Int) : Nat → Int
  | 0 => f 0
  | k + 1 => min (mv f k) (f (k + 1))
theorem mv_fm (f : Nat → Int) (n : Nat) : mv f n = f (fm f (n + 1)) := by
  induction n with
  | zero => rw [show fm f 1 = 0 from by unfold fm; split <;> rfl]; rfl
  | succ n ih =>
    rw [mv, ih]
    rw [show fm f (n + 1 + 1) = if f (n + 1) < f (fm f (n + 1)) then n + 1 else fm f (n + 1) from rfl]
    split <;> omega
theorem fm_one {f : Nat → Int} {n k : Nat} (hn : 0 < n) (h1 : f k = mv f (n - 1)) (h2 : ∀ q, q < k → f q ≠ mv f (n - 1)) : k = fm f n := by
  have e : mv f (n - 1) = f (fm f n) := by rw [mv_fm, show n - 1 + 1 = n from by omega]
  rw [e] at h1 h2
  obtain ⟨p1, p2, p3⟩ := fm_spec f n hn
  rcases Nat.lt_trichotomy k (fm f n) with h | h | h
  · have := p3 k h; omega
  · exact h
  · exact absurd rfl (h2 _ h)
/-- run j of a row that begins at from -/
def mkr (l : List Bt) (cl from_ : Int) (i : Int) (first : Bool) : Rn := ⟨i, from_, from_ + (hc first cl + len (at' l i.toNat)), first⟩
/-- the first j of a row are given to barrel k -/
def ar (l : List Bt) (cl : Int) (s : (Nat → Int) × List (List Rn)) (k : Nat) (row : List Int) : Nat → (Nat → Int) × List (List Rn)
  | 0 => s
  | j + 1 => (fun q => if q = k then (mkr l cl ((ar l cl s k row j).1 k) (row.getD j 0) (decide (j = 0))).t else (ar l cl s k row j).1 q,
    (ar l cl s k row j).2.set k ((ar l cl s k row j).2.getD k [] ++ [mkr l cl ((ar l cl s k row j).1 k) (row.getD j 0) (decide (j = 0))]))
/-- the first m rows are given to b barrels -/
def asg (l : List Bt) (cl : Int) (b : Nat) (rows : List (List Int)) : Nat → (Nat → Int) × List (List Rn)
  | 0 => (fun _ => 0, List.replicate b [])
  | m + 1 => ar l cl (asg l cl b rows m) (fm (asg l cl b rows m).1 b) (rows.getD m []) (rows.getD m []).length
theorem ar_len {l : List Bt} {cl : Int} {s : (Nat → Int) × List (List Rn)} {k : Nat} {row : List Int} : ∀ j, (ar l cl s k row j).2.length = s.2.length
  | 0 => rfl
  | j + 1 => by rw [ar]; simp only [List.length_set]; exact ar_len j
theorem asg_len {l : List Bt} {cl : Int} {b : Nat} {rows : List (List Int)} : ∀ m, (asg l cl b rows m).2.length = b
  | 0 => by simp [asg]
  | m + 1 => by rw [asg, ar_len]; exact asg_len m
/-- all are indexes -/
def Ix (l : List Bt) (row : List Int) : Prop := ∀ j, j < row.length → 0 ≤ row.getD j 0 ∧ row.getD j 0 < (l.length : Int)
theorem mkr_bd {l : List Bt} (h : Ok l) {cl f i : Int} {c : Bool} (h0 : 0 ≤ cl) (h1 : cl ≤ 100) (hi : 0 ≤ i ∧ i < (l.length : Int)) : f ≤ (mkr l cl f i c).t ∧ (mkr l cl f i c).t ≤ f + 500 := by
  have h2 := (h.vb i.toNat (by omega)).len0
  have h3 := hc_bd (c := c) h0 h1
  show f ≤ f + (hc c cl + len (at' l i.toNat)) ∧ f + (hc c cl + len (at' l i.toNat)) ≤ f + 500
  omega
theorem ar_bd {l : List Bt} (h : Ok l) {cl : Int} (h0 : 0 ≤ cl) (h1 : cl ≤ 100) {s : (Nat → Int) × List (List Rn)} {k : Nat} {row : List Int} (hr : Ix l row) {B : Int} (hs : ∀ q, 0 ≤ s.1 q ∧ s.1 q ≤ B) : ∀ j, j ≤ row.length → ∀ q, 0 ≤ (ar l cl s k row j).1 q ∧ (ar l cl s k row j).1 q ≤ B + 500 * j
  | 0, _, q => by have := hs q; simp only [ar]; omega
  | j + 1, hj, q => by
    have ih := ar_bd h h0 h1 (k := k) hr hs j (by omega)
    have hk := mkr_bd h (f := (ar l cl s k row j).1 k) (c := decide (j = 0)) h0 h1 (hr j (by omega))
    have i1 := ih k
    have i2 := ih q
    rw [ar]
    show 0 ≤ (if q = k then _ else _) ∧ (if q = k then _ else _) ≤ _
    split <;> omega
theorem asg_bd {l : List Bt} (h : Ok l) {cl : Int} (h0 : 0 ≤ cl) (h1 : cl ≤ 100) {b : Nat} {rows : List (List Int)} (hr : ∀ m, m < rows.length → Ix l (rows.getD m []) ∧ (rows.getD m []).length ≤ 60) : ∀ m, m ≤ rows.length → ∀ q, 0 ≤ (asg l cl b rows m).1 q ∧ (asg l cl b rows m).1 q ≤ 30000 * m
  | 0, _, q => by simp [asg]
  | m + 1, hm, q => by
    have ih := asg_bd h h0 h1 (b := b) hr m (by omega)
    obtain ⟨h2, h3⟩ := hr m (by omega)
    have := ar_bd h h0 h1 (k := fm (asg l cl b rows m).1 b) h2 ih _ (Nat.le_refl _) q
    rw [asg]
    omega
/-- the error of Assign -/
def asE (l : List Bt) (rows : List (List Int)) (b c : Int) : Int := if ckE l rows = 0 then (if shop b c = true then 0 else 2) else ckE l rows
def asV (l : List Bt) (rows : List (List Int)) (b c : Int) : List (List Rn) := if asE l rows b c = 0 then (asg l c b.toNat rows rows.length).2 else []
theorem asE_no {l : List Bt} {rows : List (List Int)} {b c : Int} (h : ckE l rows ≠ 0) : asE l rows b c = ckE l rows := if_neg h
theorem asE_bad {l : List Bt} {rows : List (List Int)} {b c : Int} (h : ckE l rows = 0) (h2 : shop b c = false) : asE l rows b c = 2 := by unfold asE; rw [if_pos h, if_neg (by rw [h2]; simp)]
theorem asE_ok {l : List Bt} {rows : List (List Int)} {b c : Int} (h : ckE l rows = 0) (h2 : shop b c = true) : asE l rows b c = 0 := by unfold asE; rw [if_pos h, if_pos h2]
theorem asV_no {l : List Bt} {rows : List (List Int)} {b c : Int} (h : asE l rows b c ≠ 0) : asV l rows b c = [] := if_neg h
theorem asV_ok {l : List Bt} {rows : List (List Int)} {b c : Int} (h : asE l rows b c = 0) : asV l rows b c = (asg l c b.toNat rows rows.length).2 := if_pos h
theorem ck_zero {l : List Bt} {rows : List (List Int)} (h : ckE l rows = 0) : vs l = true ∧ (∀ m, m < rows.length → Ix l (rows.getD m [])) := by
  by_cases hv : vs l = true
  rotate_left
  · rw [ckE_no (by simpa using hv)] at h; cases h
  refine ⟨hv, fun m hm j hj => ?_⟩
  rw [ckE_ok hv] at h
  unfold ckR at h
  split at h
  · cases h
  · rename_i hn
    have h1 : nix l.length (rows.getD m []) = false := by
      rcases Bool.eq_false_or_eq_true (nix l.length (rows.getD m [])) with e | e
      · exact absurd (any_one hm e) hn
      · exact e
    unfold nix at h1
    rw [List.any_eq_false] at h1
    generalize rows.getD m [] = r at *
    have := h1 (r.getD j 0) (by rw [List.getD_eq_getElem?_getD, List.getElem?_eq_getElem hj]; exact List.getElem_mem hj)
    simpa using this
end Go.Proofs.Ytlfbfdhdkccaeaa.Pl
