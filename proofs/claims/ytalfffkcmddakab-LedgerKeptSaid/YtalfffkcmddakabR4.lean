/- The document's held. -/
import Derived.Test.YtalfffkcmddakabR3
import Derived.Test.YtalfffkcmddakabZ3
namespace Go.Proofs.Ytalfffkcmddakab
open Go.RowKit Go.Shelf

theorem in8_take {W : World} {b off : Nat} {l : Pl.Bs} (h : In8 W b off l) (k : Nat) : In8 W b off (l.take k) := fun i hi => by
  have h1 : i < l.length := by rw [List.length_take] at hi; omega
  rw [List.getElem_take]
  exact h i h1
theorem in8_drop {W : World} {b off : Nat} {l : Pl.Bs} (h : In8 W b off l) (k : Nat) : In8 W b (off + k) (l.drop k) := fun i hi => by
  have h1 : k + i < l.length := by rw [List.length_drop] at hi; omega
  rw [List.getElem_drop, show off + k + i * 1 = off + (k + i) * 1 by omega]
  exact h (k + i) h1
/-- what is known ahead of a walk through held -/
structure Hd (b off n c : Nat) (w : World) (x y : Nat) : Prop where
  a : ∀ c', Calls Try.prog 74 #[.slice (some ⟨b, off, none⟩) 4 c'] w fun e w' => e = .returned (.int .i64 (x : Nat)) ∧ w' = w
  z : ∀ c', Calls Try.prog 74 #[.slice (some ⟨b, off + (n - 4), none⟩) 4 c'] w fun e w' => e = .returned (.int .i64 (y : Nat)) ∧ w' = w
theorem hd_of {b off : Nat} {l : Pl.Bs} {n : Nat} (c : Nat) (hn : l.length = n) (h8 : 8 ≤ n) (w : World) (hI : In8 w b off l) : Hd b off n c w (Pl.num (l.take 4)) (Pl.hT l) :=
  ⟨fun c' => rnum_any b off c' _ (by rw [List.length_take]; omega) w (in8_take hI 4), fun c' => by
    have := rnum_any b (off + (n - 4)) c' (l.drop (n - 4)) (by rw [List.length_drop]; omega) w (in8_drop hI (n - 4))
    rw [← hn] at this ⊢
    exact this⟩
theorem rh_ret3 {tmps : Array Value} {w : World} (h : (results Try.f60 tmps).run Try.prog w = .ok (.tuple #[tmps.getD 4 undef, tmps.getD 5 undef, tmps.getD 6 undef]) w) (h6 : tmps.getD 6 undef = .bool false) :
    bodyPost Try.prog Try.f60 (fun e w' => (∃ v t, e = .returned (.tuple #[v, t, .bool false])) ∧ w' = w) .ret { tmps := tmps, defers := [] } w := bodyPost_ret h rfl ⟨⟨_, _, by rw [h6]⟩, rfl⟩
set_option maxRecDepth 100000 in
set_option maxHeartbeats 4000000 in
theorem rheld_no (A : Option Addr) (l : Pl.Bs) (n c i : Nat) (hn : l.length = n) (hnc : n ≤ c) (hc : c ≤ maxLen) (w : World) (hI : Rows u8L 1 w A l) (hH : Pl.isH i l = false) :
    Calls Try.prog 60 #[.int .i64 (i : Nat), .slice A n c] w fun e w' => (∃ v t, e = .returned (.tuple #[v, t, .bool false])) ∧ w' = w := by
  have h := noH_of hH
  have hc' := hc
  unfold maxLen at hc'
  clear hH
  rw [NoH, hn] at h
  rcases h with h1 | ⟨h1, h⟩
  · by_cases h8 : n < 8
    · have hI8 : (n : Int) < 8 := by omega
      have d8 : decide ((n : Int) < 8) = true := by simp; omega
      clear h1 hI hn hc
      go_enter Try.func60, Try.ntmps60
      go_wp2
      exact rh_ret3 (by simp [results, Try.results60, go_sem]) rfl
    · have hI8 : ¬ (n : Int) < 8 := by omega
      have d8 : decide ((n : Int) < 8) = false := by simp; omega
      have hI6 : (65544 : Int) < (n : Int) := by omega
      have d6 : decide ((65544 : Int) < (n : Int)) = true := by simp; omega
      clear h1 hI hn hc
      go_enter Try.func60, Try.ntmps60
      go_wp2
      exact rh_ret3 (by simp [results, Try.results60, go_sem]) rfl
  · obtain ⟨b, off, rfl, hb, hcl⟩ := hI.open (by omega)
    have HD := Lib.hid (hd_of c hn h1.1 w hcl)
    have hI8 : ¬ (n : Int) < 8 := by omega
    have d8 : decide ((n : Int) < 8) = false := by simp; omega
    have hI6 : ¬ (65544 : Int) < (n : Int) := by omega
    have d6 : decide ((65544 : Int) < (n : Int)) = false := by simp; omega
    have g4 : (4 : Int) ≤ (c : Int) := by omega
    have k8 : IntKind.i64.wrap ((n : Int) - 8) = (n : Int) - 8 := IntWalk.i64_in _ (by omega)
    have k4 : IntKind.i64.wrap ((n : Int) - 4) = (n : Int) - 4 := IntWalk.i64_in _ (by omega)
    have p4 : (0 : Int) ≤ (n : Int) - 4 := by omega
    have p5 : (n : Int) - 4 ≤ (n : Int) := by omega
    have p6 : (n : Int) - 4 ≤ (c : Int) := by omega
    have p7 : (4 : Int) ≤ (n : Int) - 4 := by omega
    have s4 : ((n : Int) - 4).toNat = n - 4 := by omega
    have s5 : n - (n - 4) = 4 := by omega
    have v4 : ¬ c = n - 4 := by omega
    have v5 : ¬ c = 4 := by omega
    rcases h with h2 | ⟨h2, h⟩
    · have hne : (((Pl.num (l.take 4) : Nat) : Int) != (n : Int) - 8) = true := by simp; omega
      have hne' : ¬ ((Pl.num (l.take 4) : Nat) : Int) = (n : Int) - 8 := by omega
      generalize Pl.num (l.take 4) = x at *
      generalize Pl.hT l = y at *
      clear h1 hcl hI hn hc h2
      go_enter Try.func60, Try.ntmps60
      go_wp2_with fail
      refine (HD.out.a _).mono ?_
      rintro e w1 ⟨rfl, rfl⟩
      go_wp2
      exact rh_ret3 (by simp [results, Try.results60, go_sem]) rfl
    · have hne : (((Pl.num (l.take 4) : Nat) : Int) != (n : Int) - 8) = false := by simp; omega
      have hne' : ((Pl.num (l.take 4) : Nat) : Int) = (n : Int) - 8 := by omega
      generalize Pl.num (l.take 4) = x at *
      rcases h with h3 | ⟨h3, h4⟩
      · by_cases h0 : Pl.hT l < 1
        · have y1 : decide ((1 : Int) ≤ ((Pl.hT l : Nat) : Int)) = false := by simp; omega
          have y2 : ¬ (1 : Int) ≤ ((Pl.hT l : Nat) : Int) := by omega
          generalize Pl.hT l = y at *
          clear h1 hcl hI hn hc h2 h3 h0
          go_enter Try.func60, Try.ntmps60
          go_wp2_with fail
          refine (HD.out.a _).mono ?_
          rintro e w1 ⟨rfl, rfl⟩
          go_wp2_with fail
          refine (HD.out.z _).mono ?_
          rintro e w1 ⟨rfl, rfl⟩
          go_wp2
          exact rh_ret3 (by simp [results, Try.results60, go_sem]) rfl
        · have y1 : decide ((1 : Int) ≤ ((Pl.hT l : Nat) : Int)) = true := by simp; omega
          have y2 : (1 : Int) ≤ ((Pl.hT l : Nat) : Int) := by omega
          have y3 : decide (((Pl.hT l : Nat) : Int) < 2147483648) = false := by simp; omega
          have y4 : ¬ ((Pl.hT l : Nat) : Int) < 2147483648 := by omega
          generalize Pl.hT l = y at *
          clear h1 hcl hI hn hc h2 h3 h0
          go_enter Try.func60, Try.ntmps60
          go_wp2_with fail
          refine (HD.out.a _).mono ?_
          rintro e w1 ⟨rfl, rfl⟩
          go_wp2_with fail
          refine (HD.out.z _).mono ?_
          rintro e w1 ⟨rfl, rfl⟩
          go_wp2
          exact rh_ret3 (by simp [results, Try.results60, go_sem]) rfl
      · have y1 : decide ((1 : Int) ≤ ((Pl.hT l : Nat) : Int)) = true := by simp; omega
        have y2 : (1 : Int) ≤ ((Pl.hT l : Nat) : Int) := by omega
        have y3 : decide (((Pl.hT l : Nat) : Int) < 2147483648) = true := by simp; omega
        have y4 : ((Pl.hT l : Nat) : Int) < 2147483648 := by omega
        have y5 : Int.tmod ((Pl.hT l : Nat) : Int) 2 = ((Pl.hT l % 2 : Nat) : Int) := by rw [Int.tmod_eq_emod_of_nonneg (by omega)]; omega
        have y6 : (((Pl.hT l % 2 : Nat) : Int) == (i : Int)) = false := by simp; omega
        have y7 : ¬ ((Pl.hT l % 2 : Nat) : Int) = (i : Int) := by omega
        have HM2 : Hid (∃ z, z = Pl.hT l % 2) := Lib.hid ⟨_, rfl⟩
        generalize Pl.hT l % 2 = z at *
        generalize Pl.hT l = y at *
        clear h1 hcl hI hn hc h2 h3 h4 HM2
        go_enter Try.func60, Try.ntmps60
        go_wp2_with fail
        refine (HD.out.a _).mono ?_
        rintro e w1 ⟨rfl, rfl⟩
        go_wp2_with fail
        refine (HD.out.z _).mono ?_
        rintro e w1 ⟨rfl, rfl⟩
        go_wp2
        exact rh_ret3 (by simp [results, Try.results60, go_sem]) rfl
set_option maxRecDepth 100000 in
set_option maxHeartbeats 4000000 in
theorem rheld_yes0 (b off : Nat) (l : Pl.Bs) (n c i : Nat) (hn : l.length = n) (hnc : n ≤ c) (hc : c ≤ maxLen) (w : World) (hcl : In8 w b off l) (hH : Pl.isH i l = true) :
    Calls Try.prog 60 #[.int .i64 (i : Nat), .slice (some ⟨b, off, none⟩) n c] w fun e w' => e = .returned (.tuple #[.slice (some ⟨b, off + 4, none⟩) (n - 4 - 4) (c - 4), .int .i64 (Pl.hT l : Nat), .bool true]) ∧ w' = w := by
  obtain ⟨h1, h1', h2, h3, h3', h4⟩ := Pl.isH_iff.1 hH
  have hc' := hc
  unfold maxLen at hc'
  clear hH
  have HD := Lib.hid (hd_of c hn (by omega) w hcl)
  have hI8 : ¬ (n : Int) < 8 := by omega
  have d8 : decide ((n : Int) < 8) = false := by simp; omega
  have hI6 : ¬ (65544 : Int) < (n : Int) := by omega
  have d6 : decide ((65544 : Int) < (n : Int)) = false := by simp; omega
  have g4 : (4 : Int) ≤ (c : Int) := by omega
  have k8 : IntKind.i64.wrap ((n : Int) - 8) = (n : Int) - 8 := IntWalk.i64_in _ (by omega)
  have k4 : IntKind.i64.wrap ((n : Int) - 4) = (n : Int) - 4 := IntWalk.i64_in _ (by omega)
  have p4 : (0 : Int) ≤ (n : Int) - 4 := by omega
  have p5 : (n : Int) - 4 ≤ (n : Int) := by omega
  have p6 : (n : Int) - 4 ≤ (c : Int) := by omega
  have p7 : (4 : Int) ≤ (n : Int) - 4 := by omega
  have s4 : ((n : Int) - 4).toNat = n - 4 := by omega
  have s5 : n - (n - 4) = 4 := by omega
  have v4 : ¬ c = n - 4 := by omega
  have v5 : ¬ c = 4 := by omega
  have hne : (((Pl.num (l.take 4) : Nat) : Int) != (n : Int) - 8) = false := by simp; omega
  have hne' : ((Pl.num (l.take 4) : Nat) : Int) = (n : Int) - 8 := by omega
  generalize Pl.num (l.take 4) = x at *
  have y1 : decide ((1 : Int) ≤ ((Pl.hT l : Nat) : Int)) = true := by simp; omega
  have y2 : (1 : Int) ≤ ((Pl.hT l : Nat) : Int) := by omega
  have y3 : decide (((Pl.hT l : Nat) : Int) < 2147483648) = true := by simp; omega
  have y4 : ((Pl.hT l : Nat) : Int) < 2147483648 := by omega
  have y5 : Int.tmod ((Pl.hT l : Nat) : Int) 2 = (i : Int) := by rw [Int.tmod_eq_emod_of_nonneg (by omega)]; omega
  have y6 : ((i : Int) == (i : Int)) = true := by simp
  generalize Pl.hT l = y at *
  clear h1 hcl hn hc h2 h3 h4 h1' h3' hc' hnc
  go_enter Try.func60, Try.ntmps60
  go_wp2_with fail
  refine (HD.out.a _).mono ?_
  rintro e w1 ⟨rfl, rfl⟩
  go_wp2_with fail
  refine (HD.out.z _).mono ?_
  rintro e w1 ⟨rfl, rfl⟩
  go_wp2
  exact bodyPost_ret (v := .tuple #[.slice (some ⟨b, off + 4, none⟩) (n - 4 - 4) (c - 4), .int .i64 (y : Nat), .bool true]) (by simp [results, Try.results60, go_sem]) rfl ⟨rfl, rfl⟩
theorem hi_rows {W : World} {b off : Nat} {l : Pl.Bs} (hb : b < W.heap.size) (h : In8 W b off l) : Rows u8L 1 W (some ⟨b, off + 4, none⟩) (Pl.hI l) := by
  refine .inr ⟨b, off + 4, rfl, hb, ?_⟩
  unfold Pl.hI
  exact in8_take (in8_drop h 4) _
end Go.Proofs.Ytalfffkcmddakab
