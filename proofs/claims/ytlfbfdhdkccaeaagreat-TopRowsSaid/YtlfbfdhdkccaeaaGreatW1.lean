/- Lists of lists in memory; lastOf, rowFor. -/
import Derived.Test.YtlfbfdhdkccaeaaGreatV2
import Derived.Test.YtlfbfdhdkccaeaaGreatPZ
namespace Go.Proofs.YtlfbfdhdkccaeaaGreat
open Go.RowKit Go.Shelf

section
variable {α : Type} (enc : α → List Value) (k : Nat)
/-- a slice of slices that lies in memory -/
def RR (W : World) (A : Option Addr) (rows : List (List α)) : Prop :=
  rows = [] ∨ ∃ b off, A = some ⟨b, off, none⟩ ∧ b < W.heap.size ∧ ∀ j, j < rows.length → ∃ A' c, W.cell? ⟨b, off + j, none⟩ = some (.slice A' (rows.getD j []).length c) ∧ Rows enc k W A' (rows.getD j []) ∧ (rows.getD j []).length ≤ c ∧ c ≤ maxLen
end
section
variable {α : Type} {enc : α → List Value} {k : Nat}
theorem RR.below {W W' : World} {A : Option Addr} {rows : List (List α)} (h : RR enc k W A rows) (hb : Below W.heap.size W W') : RR enc k W' A rows := by
  rcases h with h | ⟨b, off, h1, h2, h3⟩
  · exact .inl h
  · refine .inr ⟨b, off, h1, Nat.lt_of_lt_of_le h2 hb.size, fun j hj => ?_⟩
    obtain ⟨A', c, h4, h5, h6⟩ := h3 j hj
    exact ⟨A', c, (hb.cell (p := ⟨b, off + j, none⟩) h2).trans h4, h5.below hb, h6⟩
theorem RR.open {W : World} {A : Option Addr} {rows : List (List α)} (h : RR enc k W A rows) (h0 : 0 < rows.length) :
    ∃ b off, A = some ⟨b, off, none⟩ ∧ b < W.heap.size ∧ ∀ j, j < rows.length → ∃ A' c, W.cell? ⟨b, off + j, none⟩ = some (.slice A' (rows.getD j []).length c) ∧ Rows enc k W A' (rows.getD j []) ∧ (rows.getD j []).length ≤ c ∧ c ≤ maxLen := by
  rcases h with h | h
  · rw [h] at h0; simp at h0
  · exact h
end

set_option maxRecDepth 100000 in
set_option maxHeartbeats 1000000 in
theorem lastOf_b (A : Option Addr) (row : List Nat) (c n : Nat) (hn : row.length = n) (h0 : 0 < n) (hn4 : n ≤ 40) (w : World) (hR : Rows irc 1 w A row) :
    Calls Tryz.prog 41 #[.slice A n c] w fun e w' => e = .returned (.int .i64 (Pl.lst row : Nat)) ∧ w' = w := by
  subst hn
  obtain ⟨b, o, rfl, hb, hc⟩ := hR.open h0
  have hq := hc (row.length - 1) (by omega) 0 _ rfl
  rw [Nat.mul_one, Nat.add_zero] at hq
  have hl : row[row.length - 1] = Pl.lst row := by
    unfold Pl.lst
    rw [List.getLast?_eq_getElem?, List.getElem?_eq_getElem (by omega)]; rfl
  rw [hl] at hq
  clear hc hR hl
  generalize Pl.lst row = x at *
  generalize row.length = n at *
  obtain ⟨m, rfl⟩ : ∃ m, n = m + 1 := ⟨n - 1, by omega⟩
  have hq' : w.cell? ⟨b, o + m, none⟩ = some (.int .i64 (x : Nat)) := hq
  have k1 : IntKind.i64.wrap (((m + 1 : Nat) : Int) - 1) = (m : Int) := by rw [show ((m + 1 : Nat) : Int) - 1 = (m : Int) from by omega]; exact IntWalk.i64_in _ (by omega)
  have k2 : ((m + 1 : Nat) : Int) - 1 = (m : Int) := by omega
  have k3 : (m : Int) < ((m + 1 : Nat) : Int) := by omega
  clear hq
  go_enter Tryz.func41, Tryz.ntmps41
  go_wp2
  go_ret
  exact ⟨rfl, rfl⟩
end Go.Proofs.YtlfbfdhdkccaeaaGreat

