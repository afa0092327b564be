/- Plain: how early all batches can be done at best. -/
import Derived.Test.YtlfbfdhdkccaeaaP4
namespace Go.Proofs.Ytlfbfdhdkccaeaa.Pl

/-- the lengths of the first k together, the greatest of them -/
def sk (l : List Bt) : Nat → Int
  | 0 => 0
  | k + 1 => sk l k + len (at' l k)
def mk (l : List Bt) : Nat → Int
  | 0 => 0
  | k + 1 => max (mk l k) (len (at' l k))
/-- the greatest of them with cleaning -/
def rl (l : List Bt) (c : Int) : Nat → Int
  | 0 => 0
  | k + 1 => max (rl l c k) (len (at' l k) + c)
def shop (b c : Int) : Bool := inB 1 b 8 && inB 0 c 100
/-- the error of Bound -/
def bdE (l : List Bt) (b c : Int) : Int := if vs l = true then (if shop b c = true then 0 else 2) else 60
/-- how many barrels are used -/
def us (l : List Bt) (b : Int) : Int := min b (l.length : Int)
/-- what the barrels share, rounded up -/
def cd (S u : Int) : Int := (S + u - 1) / u
/-- Bound -/
def bdV (l : List Bt) (b c : Int) : Int := if bdE l b c = 0 then (if us l b = 0 then 0 else c + max (mk l l.length) (cd (sk l l.length) (us l b))) else 0
theorem bdE_no {l : List Bt} {b c : Int} (h : vs l = false) : bdE l b c = 60 := if_neg (by rw [h]; simp)
theorem bdE_bad {l : List Bt} {b c : Int} (h : vs l = true) (h2 : shop b c = false) : bdE l b c = 2 := by unfold bdE; rw [if_pos h, if_neg (by rw [h2]; simp)]
theorem bdE_ok {l : List Bt} {b c : Int} (h : vs l = true) (h2 : shop b c = true) : bdE l b c = 0 := by unfold bdE; rw [if_pos h, if_pos h2]
theorem shop_true {b c : Int} : shop b c = true ↔ (1 ≤ b ∧ b ≤ 8) ∧ 0 ≤ c ∧ c ≤ 100 := by unfold shop; rw [Bool.and_eq_true, inB_true, inB_true]
theorem bdE_zero {l : List Bt} {b c : Int} (h : bdE l b c = 0) : vs l = true ∧ shop b c = true := by
  unfold bdE at h
  split at h
  · rename_i h1
    split at h
    · rename_i h2; exact ⟨h1, h2⟩
    · cases h
  · cases h
theorem sk_bd {l : List Bt} (h : Ok l) : ∀ k, k ≤ l.length → (0 ≤ sk l k ∧ sk l k ≤ 400 * k) ∧ (0 ≤ mk l k ∧ mk l k ≤ 400)
  | 0, _ => by simp [sk, mk]
  | k + 1, hk => by
    obtain ⟨h1, h2⟩ := sk_bd h k (by omega)
    have h3 := (h.vb k (by omega)).len0
    rw [sk, mk]
    omega
theorem rl_mk {l : List Bt} (h : Ok l) {c : Int} (hc : 0 ≤ c) : ∀ k, k < l.length → rl l c (k + 1) = mk l (k + 1) + c
  | 0, hk => by
    have h3 := (h.vb 0 hk).len0
    rw [rl, mk, rl, mk]
    omega
  | k + 1, hk => by
    have h3 := (h.vb (k + 1) hk).len0
    have h4 := rl_mk h hc k (by omega)
    have h5 := (sk_bd h (k + 1) (by omega)).2
    rw [rl, mk, h4]
    omega
theorem rl_bd {l : List Bt} (h : Ok l) {c : Int} (hc : 0 ≤ c) (hc2 : c ≤ 100) : ∀ k, k ≤ l.length → 0 ≤ rl l c k ∧ rl l c k ≤ 500
  | 0, _ => by simp [rl]
  | k + 1, hk => by
    have h1 := rl_bd h hc hc2 k (by omega)
    have h3 := (h.vb k (by omega)).len0
    rw [rl]
    omega
theorem nat8 {u : Int} (h1 : 1 ≤ u) (h2 : u ≤ 8) : u = 1 ∨ u = 2 ∨ u = 3 ∨ u = 4 ∨ u = 5 ∨ u = 6 ∨ u = 7 ∨ u = 8 := by omega
theorem cd_step {S c b : Int} (h0 : 0 ≤ S) (h1 : 2 ≤ b) (h2 : b ≤ 8) : min (c + cd S (b - 1)) ((S + b * c + b - 1) / b) = c + cd S b := by
  unfold cd
  rcases nat8 (u := b) (by omega) h2 with rfl | rfl | rfl | rfl | rfl | rfl | rfl | rfl <;> omega
theorem cd_down {S b : Int} (h0 : 0 ≤ S) (h1 : 1 ≤ b) (h2 : b ≤ 7) : cd S (b + 1) ≤ cd S b := by
  unfold cd
  rcases nat8 (u := b) h1 (by omega) with rfl | rfl | rfl | rfl | rfl | rfl | rfl | rfl <;> omega
theorem cd_one {S : Int} : cd S 1 = S := by unfold cd; omega
theorem cd_bd {S b : Int} (h0 : 0 ≤ S) (h1 : 1 ≤ b) (h2 : b ≤ 8) : 0 ≤ cd S b ∧ cd S b ≤ S + 8 := by
  unfold cd
  rcases nat8 (u := b) h1 (by omega) with rfl | rfl | rfl | rfl | rfl | rfl | rfl | rfl <;> omega
/-- more barrels never make it later -/
theorem bd_more {l : List Bt} {b c : Int} (h : bdE l b c = 0) (hb : b ≠ 8) : bdE l (b + 1) c = 0 ∧ bdV l (b + 1) c ≤ bdV l b c := by
  obtain ⟨h1, h2⟩ := bdE_zero h
  have h3 := shop_true.1 h2
  have h4 : bdE l (b + 1) c = 0 := bdE_ok h1 (shop_true.2 (by omega))
  refine ⟨h4, ?_⟩
  unfold bdV
  rw [if_pos h, if_pos h4]
  have hs := (sk_bd (ok_of h1) l.length (Nat.le_refl _)).1.1
  generalize sk l l.length = S at *
  generalize mk l l.length = M at *
  unfold us
  by_cases e : (l.length : Int) ≤ b
  · rw [show min (b + 1) (l.length : Int) = min b (l.length : Int) from by omega]
    exact Int.le_refl _
  · rw [show min (b + 1) (l.length : Int) = b + 1 from by omega, show min b (l.length : Int) = b from by omega, if_neg (by omega), if_neg (by omega)]
    have := cd_down (S := S) (b := b) hs (by omega) (by omega)
    omega
end Go.Proofs.Ytlfbfdhdkccaeaa.Pl
