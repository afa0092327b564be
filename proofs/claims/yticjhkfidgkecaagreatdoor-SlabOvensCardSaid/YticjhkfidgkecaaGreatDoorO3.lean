/- Ovens: Ready, of the program and the document. -/
import Derived.Test.YticjhkfidgkecaaGreatDoorO2
namespace Go.Proofs.YticjhkfidgkecaaGreatDoor
open Go.RowKit Pl

theorem rdV_of {n : Int} {t : List Int} {l : Int} (h : rdE n t l ≠ 0) : rdV n t l = 0 := by unfold rdV; rw [if_neg h]
/-- what the loop of Ready needs -/
theorem rd_calls (n : Int) (A : Option Addr) (t : List Int) (len c : Nat) (hlen : t.length = len) (hc : len ≤ c) (l : Int) (hE : rdE n t l = 0) :
    (∀ (d : Nat), d ≤ 100 → ∀ w, Tb w A t → Calls Tryz.prog 94 #[.int .i64 n, .slice A len c, .int .i64 d] w fun e w' => e = .returned (.int .i64 (sea n t d)) ∧ w' = w) ∧
    (∀ (d : Nat), d ≤ 100 → ∀ w, Tb w A t → Calls Tryz.prog 97 #[.int .i64 n, .slice A len c, .int .i64 d] w fun e w' => e = .returned (.int .i64 (sea n t d)) ∧ w' = w) ∧
    (∀ d, IntKind.i64.wrap (sea n t d - sea n t len) = sea n t d - sea n t len) ∧ rdy n t l ≤ len ∧ len ≤ 60 ∧
    (∀ d, d < rdy n t l → decide (l < sea n t d - sea n t len) = true) ∧ decide (l < sea n t (rdy n t l) - sea n t len) = false ∧ rdV n t l = rdy n t l := by
  obtain ⟨hok, hn, hl, h60⟩ := rdE_zero hE
  obtain ⟨h1, h2, h3⟩ := rdy_spec (n := n) (t := t) hl
  subst hlen
  refine ⟨fun d hd w hI => seasoned_any n A t _ c rfl hc hok d (by omega) (by omega) w hI, fun d hd w hI => dseasoned_any n A t _ c rfl hok d (by omega) h60 (by omega) w hI, fun d => ?_, h1, h60, fun d hd => by simpa using h3 d hd, by simpa using h2, by unfold rdV; rw [if_pos hE]⟩
  have a := sea_bd (s := n) d hok (by omega)
  have b := sea_bd (s := n) t.length hok (by omega)
  exact IntWalk.i64_in _ (by omega)
set_option maxRecDepth 100000 in
set_option maxHeartbeats 2000000 in
theorem ready_any (n : Int) (A : Option Addr) (t : List Int) (len c : Nat) (hlen : t.length = len) (hc : len ≤ c) (hm : len ≤ maxLen) (l : Int) (w : World) (hI : Tb w A t) :
    Calls Tryz.prog 54 #[.int .i64 n, .slice A len c, .int .i64 l] w fun e w' => e = .returned (.tuple #[.int .i64 (rdV n t l), .int .i64 (rdE n t l)]) ∧ w' = w := by
  obtain ⟨E, hE⟩ : ∃ E, rdE n t l = E := ⟨_, rfl⟩
  obtain ⟨V, hV⟩ : ∃ V, rdV n t l = V := ⟨_, rfl⟩
  obtain ⟨a, ha⟩ : ∃ a, siz n = a := ⟨_, rfl⟩
  obtain ⟨b, hb⟩ : ∃ b, decide (0 ≤ l) = b := ⟨_, rfl⟩
  obtain ⟨R, hR⟩ : ∃ R, rdy n t l = R := ⟨_, rfl⟩
  have HV0 := Lib.hid (rdV_of (n := n) (t := t) (l := l))
  have HS := Lib.hid (fun (h : E = 0) => rd_calls n A t len c hlen hc l (hE.trans h))
  rw [hE, hV] at HV0
  rw [hV, hR] at HS
  rw [hE, hV]
  unfold rdE at hE
  rw [ha, hb] at hE
  have H3 := Lib.hid (fun w hI => ovenError_any A t len c hlen hm (a && b) E hE w hI)
  have H1 := Lib.hid (isSize_any n)
  rw [ha] at H1
  have HI := Lib.hid hI
  have HBB := Lib.hid hb
  clear hlen hc hm hE hV ha hI hR hb
  go_enter Tryz.func54, Tryz.ntmps54
  go_wp2_with fail
  refine (H1.out _).mono ?_
  rintro e w1 ⟨rfl, rfl⟩
  cases a with
  | false =>
    rw [Bool.false_and] at H3
    go_wp2_with fail
    refine (H3.out _ HI.out).mono ?_
    rintro e w2 ⟨rfl, rfl⟩
    by_cases h0 : E = 0
    · obtain ⟨g1, g2, g3, hRl, hl6, g5, g6, hVR⟩ := HS.out h0
      have HSS := Lib.hid g1
      have HW := Lib.hid g3
      have HLT := Lib.hid g5
      have HGE := Lib.hid g6
      have HVR := Lib.hid hVR
      subst h0
      clear HS HV0 g1 g2 g3 g5 g6 hVR H1 H3
      go_wp2_with fail
      refine (HSS.out len (by omega) _ HI.out).mono ?_
      rintro e w5 ⟨rfl, rfl⟩
      have HEN : Hid (∀ d, sea n t d = sea n t d) := Lib.hid (fun _ => rfl)
      obtain ⟨z, hz⟩ : ∃ z, z = sea n t len := ⟨_, rfl⟩
      rw [← hz] at HW HLT HGE
      rw [← hz]
      clear hz HEN
      go_wp2_with fail
      go_loop [10] (fun i => ∃ k : Nat, k ≤ R ∧ i = .int .i64 k) (fun i => R - (intOf i).toNat)
      case atStart => exact ⟨0, by omega, rfl⟩
      case round =>
        obtain ⟨k, hk, rfl⟩ := hrel
        have hkw := HW.out k
        by_cases hlt : k < R
        · have HL := Lib.hid hlt
          have hd := HLT.out k hlt
          go_wp2_with fail
          refine (HSS.out k (by omega) _ HI.out).mono ?_
          rintro e w6 ⟨rfl, rfl⟩
          generalize sea n t k = y at *
          go_wp2_with fail
          go_round
          case rel => exact ⟨k + 1, HL.out, by go_num⟩
          case measure => have := HL.out; simp [intOf]; omega
        · obtain rfl : k = R := by omega
          have hd := HGE.out
          go_wp2_with fail
          refine (HSS.out k (by omega) _ HI.out).mono ?_
          rintro e w6 ⟨rfl, rfl⟩
          generalize sea n t k = y at *
          go_wp2_with fail
          go_ret2
          exact ⟨ret2 (congrArg (Value.int .i64) HVR.out.symm) rfl, rfl⟩
    · have g0 : (E == 0) = false := by simpa using h0
      have HZ := Lib.hid (HV0.out h0)
      clear HS HV0 H1 H3
      go_wp2_with fail
      go_ret2
      exact ⟨ret2 (congrArg (Value.int .i64) HZ.out.symm) rfl, rfl⟩
  | true =>
    rw [Bool.true_and] at H3
    by_cases hl0 : 0 ≤ l
    · have eb : b = true := by rw [← HBB.out]; simpa using hl0
      subst eb
      go_wp2_with fail
      refine (H3.out _ HI.out).mono ?_
      rintro e w2 ⟨rfl, rfl⟩
      by_cases h0 : E = 0
      · obtain ⟨g1, g2, g3, hRl, hl6, g5, g6, hVR⟩ := HS.out h0
        have HSS := Lib.hid g1
        have HW := Lib.hid g3
        have HLT := Lib.hid g5
        have HGE := Lib.hid g6
        have HVR := Lib.hid hVR
        subst h0
        clear HS HV0 g1 g2 g3 g5 g6 hVR H1 H3
        go_wp2_with fail
        refine (HSS.out len (by omega) _ HI.out).mono ?_
        rintro e w5 ⟨rfl, rfl⟩
        have HEN : Hid (∀ d, sea n t d = sea n t d) := Lib.hid (fun _ => rfl)
        obtain ⟨z, hz⟩ : ∃ z, z = sea n t len := ⟨_, rfl⟩
        rw [← hz] at HW HLT HGE
        rw [← hz]
        clear hz HEN
        go_wp2_with fail
        go_loop [10] (fun i => ∃ k : Nat, k ≤ R ∧ i = .int .i64 k) (fun i => R - (intOf i).toNat)
        case atStart => exact ⟨0, by omega, rfl⟩
        case round =>
          obtain ⟨k, hk, rfl⟩ := hrel
          have hkw := HW.out k
          by_cases hlt : k < R
          · have HL := Lib.hid hlt
            have hd := HLT.out k hlt
            go_wp2_with fail
            refine (HSS.out k (by omega) _ HI.out).mono ?_
            rintro e w6 ⟨rfl, rfl⟩
            generalize sea n t k = y at *
            go_wp2_with fail
            go_round
            case rel => exact ⟨k + 1, HL.out, by go_num⟩
            case measure => have := HL.out; simp [intOf]; omega
          · obtain rfl : k = R := by omega
            have hd := HGE.out
            go_wp2_with fail
            refine (HSS.out k (by omega) _ HI.out).mono ?_
            rintro e w6 ⟨rfl, rfl⟩
            generalize sea n t k = y at *
            go_wp2_with fail
            go_ret2
            exact ⟨ret2 (congrArg (Value.int .i64) HVR.out.symm) rfl, rfl⟩
      · have g0 : (E == 0) = false := by simpa using h0
        have HZ := Lib.hid (HV0.out h0)
        clear HS HV0 H1 H3
        go_wp2_with fail
        go_ret2
        exact ⟨ret2 (congrArg (Value.int .i64) HZ.out.symm) rfl, rfl⟩
    · have eb : b = false := by rw [← HBB.out]; simpa using hl0
      have gl : decide (0 ≤ l) = false := by simpa using hl0
      subst eb
      go_wp2_with fail
      refine (H3.out _ HI.out).mono ?_
      rintro e w2 ⟨rfl, rfl⟩
      by_cases h0 : E = 0
      · obtain ⟨g1, g2, g3, hRl, hl6, g5, g6, hVR⟩ := HS.out h0
        have HSS := Lib.hid g1
        have HW := Lib.hid g3
        have HLT := Lib.hid g5
        have HGE := Lib.hid g6
        have HVR := Lib.hid hVR
        subst h0
        clear HS HV0 g1 g2 g3 g5 g6 hVR H1 H3
        go_wp2_with fail
        refine (HSS.out len (by omega) _ HI.out).mono ?_
        rintro e w5 ⟨rfl, rfl⟩
        have HEN : Hid (∀ d, sea n t d = sea n t d) := Lib.hid (fun _ => rfl)
        obtain ⟨z, hz⟩ : ∃ z, z = sea n t len := ⟨_, rfl⟩
        rw [← hz] at HW HLT HGE
        rw [← hz]
        clear hz HEN
        go_wp2_with fail
        go_loop [10] (fun i => ∃ k : Nat, k ≤ R ∧ i = .int .i64 k) (fun i => R - (intOf i).toNat)
        case atStart => exact ⟨0, by omega, rfl⟩
        case round =>
          obtain ⟨k, hk, rfl⟩ := hrel
          have hkw := HW.out k
          by_cases hlt : k < R
          · have HL := Lib.hid hlt
            have hd := HLT.out k hlt
            go_wp2_with fail
            refine (HSS.out k (by omega) _ HI.out).mono ?_
            rintro e w6 ⟨rfl, rfl⟩
            generalize sea n t k = y at *
            go_wp2_with fail
            go_round
            case rel => exact ⟨k + 1, HL.out, by go_num⟩
            case measure => have := HL.out; simp [intOf]; omega
          · obtain rfl : k = R := by omega
            have hd := HGE.out
            go_wp2_with fail
            refine (HSS.out k (by omega) _ HI.out).mono ?_
            rintro e w6 ⟨rfl, rfl⟩
            generalize sea n t k = y at *
            go_wp2_with fail
            go_ret2
            exact ⟨ret2 (congrArg (Value.int .i64) HVR.out.symm) rfl, rfl⟩
      · have g0 : (E == 0) = false := by simpa using h0
        have HZ := Lib.hid (HV0.out h0)
        clear HS HV0 H1 H3
        go_wp2_with fail
        go_ret2
        exact ⟨ret2 (congrArg (Value.int .i64) HZ.out.symm) rfl, rfl⟩
set_option maxRecDepth 100000 in
set_option maxHeartbeats 2000000 in
theorem dready_any (n : Int) (A : Option Addr) (t : List Int) (len c : Nat) (hlen : t.length = len) (hc : len ≤ c) (hm : len ≤ maxLen) (l : Int) (w : World) (hI : Tb w A t) :
    Calls Tryz.prog 55 #[.int .i64 n, .slice A len c, .int .i64 l] w fun e w' => e = .returned (.tuple #[.int .i64 (rdV n t l), .int .i64 (rdE n t l)]) ∧ w' = w := by
  obtain ⟨E, hE⟩ : ∃ E, rdE n t l = E := ⟨_, rfl⟩
  obtain ⟨V, hV⟩ : ∃ V, rdV n t l = V := ⟨_, rfl⟩
  obtain ⟨T, hT⟩ : ∃ T, ovE t true = T := ⟨_, rfl⟩
  obtain ⟨a, ha⟩ : ∃ a, siz n = a := ⟨_, rfl⟩
  obtain ⟨R, hR⟩ : ∃ R, rdy n t l = R := ⟨_, rfl⟩
  have HV0 := Lib.hid (rdV_of (n := n) (t := t) (l := l))
  have HS := Lib.hid (fun (h : E = 0) => rd_calls n A t len c hlen hc l (hE.trans h))
  have HEE := Lib.hid (ovE_and t (siz n && decide (0 ≤ l)))
  rw [show ovE t (siz n && decide (0 ≤ l)) = E from hE, hT] at HEE
  rw [hE, hV] at HV0
  rw [hV, hR] at HS
  rw [hE, hV]
  have H3 := Lib.hid (fun w hI => table_any A t len c hlen hm T hT w hI)
  have H1 := Lib.hid (raw_any n)
  rw [ha] at H1 HEE
  have HI := Lib.hid hI
  clear hlen hc hm hE hV ha hT hI hR
  go_enter Tryz.func55, Tryz.ntmps55
  go_wp2_with fail
  refine (H3.out _ HI.out).mono ?_
  rintro e w1 ⟨rfl, rfl⟩
  by_cases hT0 : T = 0
  · have HE2 := Lib.hid (HEE.out.1 hT0)
    subst hT0
    clear HEE
    go_wp2_with fail
    refine (H1.out _).mono ?_
    rintro e w2 ⟨rfl, rfl⟩
    cases a with
    | false =>
      have e2 : E = 2 := HE2.out
      have HZ := Lib.hid (HV0.out (by rw [e2]; decide))
      subst e2
      clear HE2 HS HV0
      go_wp2_with fail
      go_ret2
      exact ⟨ret2 (congrArg (Value.int .i64) HZ.out.symm) rfl, rfl⟩
    | true =>
      rw [Bool.true_and] at HE2
      by_cases h1 : l < 0
      · have e2 : E = 2 := by have := HE2.out; rw [show decide (0 ≤ l) = false by simp; omega] at this; exact this
        have HZ := Lib.hid (HV0.out (by rw [e2]; decide))
        subst e2
        clear HE2 HS HV0
        go_wp2_with fail
        go_ret2
        exact ⟨ret2 (congrArg (Value.int .i64) HZ.out.symm) rfl, rfl⟩
      · have g1 : decide (l < 0) = false := by simpa using h1
        have e2 : E = 0 := by have := HE2.out; rw [show decide (0 ≤ l) = true by simp; omega] at this; exact this
        have HE0 := Lib.hid e2
        clear HE2 e2
        go_wp2_with fail
        have h0 := HE0.out
        obtain ⟨g1, g2, g3, hRl, hl6, g5, g6, hVR⟩ := HS.out h0
        have HSS := Lib.hid g2
        have HW := Lib.hid g3
        have HLT := Lib.hid g5
        have HGE := Lib.hid g6
        have HVR := Lib.hid hVR
        subst h0
        clear HS HV0 g1 g2 g3 g5 g6 hVR H1 H3 HE0
        go_wp2_with fail
        refine (HSS.out len (by omega) _ HI.out).mono ?_
        rintro e w5 ⟨rfl, rfl⟩
        have HEN : Hid (∀ d, sea n t d = sea n t d) := Lib.hid (fun _ => rfl)
        obtain ⟨z, hz⟩ : ∃ z, z = sea n t len := ⟨_, rfl⟩
        rw [← hz] at HW HLT HGE
        rw [← hz]
        clear hz HEN
        go_wp2_with fail
        go_loop [10] (fun i => ∃ k : Nat, k ≤ R ∧ i = .int .i64 k) (fun i => R - (intOf i).toNat)
        case atStart => exact ⟨0, by omega, rfl⟩
        case round =>
          obtain ⟨k, hk, rfl⟩ := hrel
          have hkw := HW.out k
          by_cases hlt : k < R
          · have HL := Lib.hid hlt
            have hd := HLT.out k hlt
            go_wp2_with fail
            refine (HSS.out k (by omega) _ HI.out).mono ?_
            rintro e w6 ⟨rfl, rfl⟩
            generalize sea n t k = y at *
            go_wp2_with fail
            go_round
            case rel => exact ⟨k + 1, HL.out, by go_num⟩
            case measure => have := HL.out; simp [intOf]; omega
          · obtain rfl : k = R := by omega
            have hd := HGE.out
            go_wp2_with fail
            refine (HSS.out k (by omega) _ HI.out).mono ?_
            rintro e w6 ⟨rfl, rfl⟩
            generalize sea n t k = y at *
            go_wp2_with fail
            go_ret2
            exact ⟨ret2 (congrArg (Value.int .i64) HVR.out.symm) rfl, rfl⟩
  · have e2 : E = T := HEE.out.2 hT0
    have HZ := Lib.hid (HV0.out (by rw [e2]; exact hT0))
    have g0 : (T == 0) = false := by simpa using hT0
    subst e2
    clear HS HV0 HEE
    go_wp2_with fail
    go_ret2
    exact ⟨ret2 (congrArg (Value.int .i64) HZ.out.symm) rfl, rfl⟩
end Go.Proofs.YticjhkfidgkecaaGreatDoor
