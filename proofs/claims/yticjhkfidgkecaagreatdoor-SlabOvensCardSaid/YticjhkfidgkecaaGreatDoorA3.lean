import Derived.Test.YticjhkfidgkecaaGreatDoorA2
namespace Go.Proofs.YticjhkfidgkecaaGreatDoor
open Go.RowKit Pl

def LettersOk (h : Hd) : Prop := (h.op ≠ 1 ∧ h.col = 0 ∧ 0 ≤ h.ax ∧ h.ax ≤ 2) ∨ (h.op = 1 ∧ (97 ≤ h.col ∧ h.col ≤ 105) ∧ h.ax = 0)
theorem isAxis_r (n : Int) (r : Bool) (hr : (0 ≤ n ∧ n ≤ 2) ↔ r = true) (w : World) : Calls Tryz.prog 75 #[.int .i64 n] w fun e w' => e = .returned (.bool r) ∧ w' = w := by
  have : (decide (0 ≤ n) && decide (n ≤ 2)) = r := by
    rw [Bool.eq_iff_iff, ← hr]; simp
  exact this ▸ isAxis_any n w
theorem isOp_r (n : Int) (r : Bool) (hr : (1 ≤ n ∧ n ≤ 6) ↔ r = true) (w : World) : Calls Tryz.prog 123 #[.int .i64 n] w fun e w' => e = .returned (.bool r) ∧ w' = w := by
  have : (decide (1 ≤ n) && decide (n ≤ 6)) = r := by
    rw [Bool.eq_iff_iff, ← hr]; simp
  exact this ▸ isOp_any n w
abbrev hdo (h : Hd) (A : Option Addr) (n c : Nat) : Obj := .cells #[.int .i64 h.op, .int .i64 h.ax, .int .u8 h.col, .int .i64 h.n0, .int .i64 h.n1, .int .i64 h.n2, .slice A n c] 25

set_option maxRecDepth 100000 in
set_option maxHeartbeats 1000000 in
theorem letters_any (h : Hd) (A : Option Addr) (n c : Nat) (w : World) (hO : Own w) (r : Bool) (hr : LettersOk h ↔ r = true) :
    Calls Tryz.prog 124 #[bv h A n c] w fun e w' => e = .returned (.bool r) ∧ Below w.heap.size w w' := by
  have HR := Lib.hid hr
  have HO := Lib.hid hO
  clear hr hO
  unfold bv hdc
  have HB := Lib.hid (Below.alloc (Below.refl w.heap.size w) (Nat.le_refl _) (hdo h A n c))
  have hF : ¬ LettersOk h → r = false := fun hn => by
    cases hr : r with
    | false => rfl
    | true => exact absurd (HR.out.2 hr) hn
  by_cases h1 : h.op = 1
  · have g1 : (h.op != 1) = false := by simpa using h1
    have H1 := Lib.hid h1
    clear h1
    by_cases hc : 97 ≤ h.col ∧ h.col ≤ 105
    · have hyes := fun w hO => colourOf_yes h.col hc.1 hc.2 w hO
      have HC := Lib.hid hc
      have HY := Lib.hid hyes
      clear hc hyes
      by_cases hx : h.ax = 0
      · have g2 : (h.ax == 0) = true := by simpa using hx
        have HF : Hid (r = true) := Lib.hid (HR.out.1 (.inr ⟨H1.out, HC.out, hx⟩))
        clear hx hF
        go_enter Tryz.func124, Tryz.ntmps124
        go_wp2_with fail
        refine (HY.out _ (HO.out.below HB.out)).mono ?_
        rintro e w1 ⟨rfl, rfl⟩
        go_wp2_with fail
        go_ret
        exact ⟨ret1 (congrArg Value.bool HF.out.symm), HB.out⟩
      · have g2 : (h.ax == 0) = false := by simpa using hx
        have HF : Hid (r = false) := Lib.hid (hF (by rintro (⟨a, _⟩ | ⟨_, _, a⟩); exact a H1.out; exact hx a))
        clear hx hF
        go_enter Tryz.func124, Tryz.ntmps124
        go_wp2_with fail
        refine (HY.out _ (HO.out.below HB.out)).mono ?_
        rintro e w1 ⟨rfl, rfl⟩
        go_wp2_with fail
        go_ret
        exact ⟨ret1 (congrArg Value.bool HF.out.symm), HB.out⟩
    · have HY := Lib.hid (fun w hO => colourOf_no h.col hc w hO)
      have HF : Hid (r = false) := Lib.hid (hF (by rintro (⟨a, _⟩ | ⟨_, a, _⟩); exact a H1.out; exact hc a))
      clear hc hF
      go_enter Tryz.func124, Tryz.ntmps124
      go_wp2_with fail
      refine (HY.out _ (HO.out.below HB.out)).mono ?_
      rintro e w1 ⟨rfl, rfl⟩
      go_wp2_with fail
      go_ret
      exact ⟨ret1 (congrArg Value.bool HF.out.symm), HB.out⟩
  · have g1 : (h.op != 1) = true := by simpa using h1
    have H1 := Lib.hid h1
    clear h1
    by_cases hc : h.col = 0
    · have g2 : (h.col == 0) = true := by simpa using hc
      have hX : Hid ((0 ≤ h.ax ∧ h.ax ≤ 2) ↔ r = true) := Lib.hid (by
        rw [← HR.out]
        constructor
        · rintro ⟨a, b⟩; exact .inl ⟨H1.out, hc, a, b⟩
        · rintro (⟨_, _, a, b⟩ | ⟨a, _⟩)
          · exact ⟨a, b⟩
          · exact absurd a H1.out)
      clear hc hF
      go_enter Tryz.func124, Tryz.ntmps124
      go_wp2_with fail
      refine (isAxis_r h.ax r hX.out _).mono ?_
      rintro e w1 ⟨rfl, rfl⟩
      cases r with
      | false => go_wp2_with fail; go_ret; exact ⟨rfl, HB.out⟩
      | true => go_wp2_with fail; go_ret; exact ⟨rfl, HB.out⟩
    · have g2 : (h.col == 0) = false := by simpa using hc
      have HF : Hid (r = false) := Lib.hid (hF (by rintro (⟨_, a, _⟩ | ⟨a, _⟩); exact hc a; exact H1.out a))
      clear hc hF
      go_enter Tryz.func124, Tryz.ntmps124
      go_wp2_with fail
      go_ret
      exact ⟨ret1 (congrArg Value.bool HF.out.symm), HB.out⟩

theorem formed_iff (h : Hd) (n : Nat) : FormedP h n ↔ ((1 ≤ h.op ∧ h.op ≤ 6) ∧ n = nPart h.op ∧ LettersOk h ∧ NumsOk h) := by
  have h3 : NumsOk h ↔ (okN (nNum h.op) h.op 0 h.n0 ∧ okN (nNum h.op) h.op 1 h.n1 ∧ okN (nNum h.op) h.op 2 h.n2) := by
    unfold NumsOk
    constructor
    · intro hh; exact ⟨hh 0 (by omega), hh 1 (by omega), hh 2 (by omega)⟩
    · rintro ⟨a, b, c⟩ k hk
      have : k = 0 ∨ k = 1 ∨ k = 2 := by omega
      rcases this with rfl | rfl | rfl
      · exact a
      · exact b
      · exact c
  rw [h3]
  obtain ⟨op, ax, col, n0, n1, n2⟩ := h
  unfold FormedP LettersOk okN leastV nNum nPart
  dsimp only
  by_cases o1 : op = 1
  · subst o1; simp; omega
  · by_cases o2 : op = 2
    · subst o2; simp; omega
    · by_cases o3 : op = 3
      · subst o3; simp; omega
      · by_cases o4 : op = 4
        · subst o4; simp; omega
        · by_cases o5 : op = 5
          · subst o5; simp; omega
          · by_cases o6 : op = 6
            · subst o6; simp; omega
            · simp [o1, o2, o3, o4, o5, o6]; omega
end Go.Proofs.YticjhkfidgkecaaGreatDoor
