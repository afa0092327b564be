/- Ovens: Allowance of the document. -/
import Derived.Test.YticjhkfidgkecaaGreatDoorO5
namespace Go.Proofs.YticjhkfidgkecaaGreatDoor
open Go.RowKit Go.Shelf Pl

set_option maxRecDepth 100000 in
set_option maxHeartbeats 4000000 in
theorem dallow_any (n : Int) (A : Option Addr) (t : List Int) (len c : Nat) (hlen : t.length = len) (hm : len ≤ maxLen) (d : Int) (w : World) (hI : Tb w A t) :
    Calls Tryz.prog 57 #[.int .i64 n, .slice A len c, .int .i64 d] w fun e w' => e = .returned (.tuple #[.int .i64 (alV n t d), .int .i64 (alE n t d)]) ∧ w' = w := by
  obtain ⟨E, hE⟩ : ∃ E, seE n t d = E := ⟨_, rfl⟩
  obtain ⟨T, hT⟩ : ∃ T, ovE t true = T := ⟨_, rfl⟩
  obtain ⟨a, ha⟩ : ∃ a, siz n = a := ⟨_, rfl⟩
  have HV0 := Lib.hid (al_err (w := n) (t := t) (d := d))
  have HS := Lib.hid (seE_zero (n := n) (t := t) (d := d))
  have HAL := Lib.hid (fun r (h : seE n t d = 0) => al_some (w := n) (r := r) h)
  have HAN := Lib.hid (fun (h : seE n t d = 0) => al_none (w := n) h)
  have HEE := Lib.hid (ovE_and t (siz n && wai d))
  rw [show ovE t (siz n && wai d) = E from hE, hT] at HEE
  rw [hE] at HV0 HS HAL HAN
  have H3 := Lib.hid (fun w hI => table_any A t len c hlen hm T hT w hI)
  have H1 := Lib.hid (raw_any n)
  have HSEA := Lib.hid (fun (hok : OkT t) (h60 : len ≤ 60) (s : Nat) (hs : s ≤ 200000) (k : Nat) (hk : k ≤ 100000) w hI => dseasoned_any (s : Int) A t len c hlen hok k hk h60 (by omega) w hI)
  rw [ha] at H1 HEE
  have HI := Lib.hid hI
  have HLEN := Lib.hid hlen
  obtain ⟨V1, hV1⟩ : ∃ V, alV n t d = V := ⟨_, rfl⟩
  obtain ⟨V2, hV2⟩ : ∃ V, alE n t d = V := ⟨_, rfl⟩
  rw [hV1, hV2] at HV0
  simp only [hV1, hV2] at HAL HAN
  rw [hV1, hV2]
  clear hlen hm hE ha hT hI hV1 hV2
  go_enter Tryz.func57, Tryz.ntmps57
  go_wp2_with fail
  refine (H3.out _ HI.out).mono ?_
  rintro e w1 ⟨rfl, rfl⟩
  by_cases hT0 : T = 0
  · have HE2 := Lib.hid (HEE.out.1 hT0)
    subst hT0
    clear HEE
    go_wp2_with fail
    refine (H1.out _).mono ?_
    rintro e w2 ⟨rfl, rfl⟩
    cases a with
    | false =>
      have e2 : E = 2 := HE2.out
      have hz := HV0.out (by rw [e2]; decide)
      have HZ := Lib.hid hz.2
      have HZ1 := Lib.hid (hz.1.trans e2)
      clear HE2 HS HV0 HAL HAN hz e2
      go_wp2_with fail
      go_ret2
      exact ⟨ret2 (congrArg (Value.int .i64) HZ.out.symm) (congrArg (Value.int .i64) HZ1.out.symm), rfl⟩
    | true =>
      rw [Bool.true_and] at HE2
      by_cases h1 : d < 0
      · have e2 : E = 2 := by have := HE2.out; rw [show wai d = false by simp [wai]; omega] at this; exact this
        have hz := HV0.out (by rw [e2]; decide)
        have HZ := Lib.hid hz.2
        have HZ1 := Lib.hid (hz.1.trans e2)
        clear HE2 HS HV0 HAL HAN hz e2
        go_wp2_with fail
        go_ret2
        exact ⟨ret2 (congrArg (Value.int .i64) HZ.out.symm) (congrArg (Value.int .i64) HZ1.out.symm), rfl⟩
      · have g1 : decide (d < 0) = false := by simpa using h1
        by_cases h2 : 1000 < d
        · have e2 : E = 2 := by have := HE2.out; rw [show wai d = false by simp [wai]; omega] at this; exact this
          have hz := HV0.out (by rw [e2]; decide)
          have HZ := Lib.hid hz.2
          have HZ1 := Lib.hid (hz.1.trans e2)
          clear HE2 HS HV0 HAL HAN hz e2
          go_wp2_with fail
          go_ret2
          exact ⟨ret2 (congrArg (Value.int .i64) HZ.out.symm) (congrArg (Value.int .i64) HZ1.out.symm), rfl⟩
        · have g2 : decide (1000 < d) = false := by simpa using h2
          have e2 : E = 0 := by have := HE2.out; rw [show wai d = true by simp [wai]; omega] at this; exact this
          obtain ⟨hok, hn, hd, h60⟩ := HS.out e2
          have HY := Lib.hid (fun r => HAL.out r e2)
          have HN := Lib.hid (HAN.out e2)
          have HSS := Lib.hid (HSEA.out hok (by have := HLEN.out; omega))
          have HOK := Lib.hid hok
          obtain ⟨m, rfl⟩ : ∃ m : Nat, n = m := ⟨n.toNat, by omega⟩
          obtain ⟨k, rfl⟩ : ∃ k : Nat, d = k := ⟨d.toNat, by omega⟩
          have HK : Hid (k ≤ 1000 ∧ 1 ≤ m ∧ m ≤ 100000) := Lib.hid ⟨by omega, by omega, by omega⟩
          have h0 : Hid (∀ j : Nat, 1 ≤ j → j < m → sea (j : Int) t k < (m : Int)) := Lib.hid (fun j hj1 hj2 => by
            have := (sea_bd (s := (j : Int)) k hok (by omega)).2; omega)
          subst e2
          clear HE2 HS HV0 HAL HAN HSEA hok h60 hn hd H1 H3 h1 h2
          go_wp2_with fail
          go_loop [9] (fun i => ∃ p : Nat, p ≤ 100001 ∧ i = .int .i64 p ∧ Hid (∀ j : Nat, 1 ≤ j → j < p → sea (j : Int) t k < (m : Int)) ∧ 1 ≤ p) (fun i => 100001 - (intOf i).toNat)
          case atStart => exact ⟨m, by have := HK.out; omega, rfl, h0, HK.out.2.1⟩
          case round =>
            obtain ⟨p, hp, rfl, HJ, hp1⟩ := hrel
            by_cases hlt : p ≤ 100000
            · have HL := Lib.hid hlt
              have hltI : (p : Int) ≤ 100000 := by omega
              have HCC := Lib.hid (HSS.out p (by omega) k (by have := HK.out; omega))
              have HX : Hid (alw (m : Int) t k = some p ∨ sea (p : Int) t k < (m : Int)) := Lib.hid (by
                by_cases q : (m : Int) ≤ sea (p : Int) t k
                · exact .inl (alw_eq hp1 hlt q HJ.out)
                · exact .inr (by omega))
              have HX2 : Hid (∀ y, y = sea (p : Int) t k → (m : Int) ≤ y → alw (m : Int) t k = some p) := Lib.hid (fun y hy h => by
                rcases HX.out with q | q
                · exact q
                · rw [← hy] at q; omega)
              have HX3 : Hid (∀ y, y = sea (p : Int) t k → y < (m : Int) → ∀ j : Nat, 1 ≤ j → j < p + 1 → sea (j : Int) t k < (m : Int)) := Lib.hid (fun y hy h j h1 h2 => by
                by_cases e : j = p
                · subst e; rw [← hy]; exact h
                · exact HJ.out j h1 (by omega))
              obtain ⟨y, hy⟩ : ∃ y, y = sea (p : Int) t k := ⟨_, rfl⟩
              have HX4 := Lib.hid (HX2.out y hy)
              have HX5 := Lib.hid (HX3.out y hy)
              rw [← hy] at HCC
              clear hy HX HX2 HX3 hlt
              go_wp2_with fail
              refine (HCC.out _ HI.out).mono ?_
              rintro e w3 ⟨rfl, rfl⟩
              by_cases hge : (m : Int) ≤ y
              · obtain ⟨e1, e2⟩ := HY.out p (by have := HX4.out hge; simpa using this)
                have HE1 := Lib.hid e1
                have HE2 := Lib.hid e2
                clear e1 e2 HX5 HX4
                go_wp2_with fail
                go_ret2
                exact ⟨ret2 (congrArg (Value.int .i64) HE2.out.symm) (congrArg (Value.int .i64) HE1.out.symm), rfl⟩
              · have gf : decide ((m : Int) ≤ y) = false := by simpa using hge
                have HQ := Lib.hid (HX5.out (by omega))
                clear HX5 HX4
                go_wp2_with fail
                go_round
                case rel => exact ⟨p + 1, by have := HL.out; omega, by go_num, HQ, by omega⟩
                case measure => have := HL.out; simp [intOf]; omega
            · have hpI : decide ((p : Int) ≤ 100000) = false := by simp; omega
              obtain ⟨e1, e2⟩ := HN.out (by have := alw_no (w := (m : Int)) (t := t) (k := k) (fun j h1 h2 => HJ.out j h1 (by omega)); simpa using this)
              have HE1 := Lib.hid e1
              have HE2 := Lib.hid e2
              clear e1 e2
              go_wp2_with fail
              go_ret2
              exact ⟨ret2 (congrArg (Value.int .i64) HE2.out.symm) (congrArg (Value.int .i64) HE1.out.symm), rfl⟩
  · have e2 : E = T := HEE.out.2 hT0
    have hz := HV0.out (by rw [e2]; exact hT0)
    have HZ := Lib.hid hz.2
    have HZ1 := Lib.hid (hz.1.trans e2)
    have g0 : (T == 0) = false := by simpa using hT0
    clear HS HV0 HEE hz e2 HAL HAN
    go_wp2_with fail
    go_ret2
    exact ⟨ret2 (congrArg (Value.int .i64) HZ.out.symm) (congrArg (Value.int .i64) HZ1.out.symm), rfl⟩
end Go.Proofs.YticjhkfidgkecaaGreatDoor
