/- BarrelProofs. -/
import Derived.Test.YtlfbfdhdkccaeaaQ1
import Derived.Test.YtlfbfdhdkccaeaaK8
import Derived.Test.YtlfbfdhdkccaeaaD3
namespace Go.Proofs.Ytlfbfdhdkccaeaa
open Go.RowKit Go.Shelf Go.Sort

theorem rows_zI {W : World} {A : Option Addr} {xs : List Nat} (h : Rows irc 1 W A xs) : Rows inL 1 W A (Pl.zI xs) := by
  rcases h with h | ⟨b, off, h1, h2, h3⟩
  · exact .inl (by rw [h]; rfl)
  · refine .inr ⟨b, off, h1, h2, fun i hi => ?_⟩
    rw [Pl.zI_at hi]
    exact h3 i (by rw [Pl.zI_len] at hi; exact hi)
theorem rr_zI {W : World} {A : Option Addr} {rows : List (List Nat)} (h : RR irc 1 W A rows) : RR inL 1 W A (rows.map Pl.zI) := by
  rcases h with h | ⟨b, off, h1, h2, h3⟩
  · exact .inl (by rw [h]; rfl)
  · refine .inr ⟨b, off, h1, h2, fun j hj => ?_⟩
    obtain ⟨A', c, h4, h5, h6⟩ := h3 j (by simpa using hj)
    refine ⟨A', c, ?_⟩
    rw [Pl.getD_zI, Pl.zI_len]
    exact ⟨h4, rows_zI h5, h6⟩

set_option maxRecDepth 100000 in
theorem Proof_no (A : Option Addr) (l : List Pl.Bt) (c n : Nat) (hn : l.length = n) (h : Pl.vs l = false) (w : World) (hI : Bts w A l) :
    Calls Try.prog 33 #[.slice A n c] w fun e w' => e = .returned (.tuple #[.slice none 0 0, .int .i64 60]) ∧ Below w.heap.size w w' := by
  have HC := Lib.hid (valid_any A l c w hI)
  rw [hn, h] at HC
  clear hI h hn
  go_enter Try.func33, Try.ntmps33
  go_wp2_with fail
  refine HC.out.mono ?_
  rintro e w1 ⟨rfl, hb1⟩
  go_wp2
  go_ret2
  exact ⟨rfl, hb1⟩
theorem Pl.srt_rise {l : List Pl.Bt} (h : Pl.Ok l) {j : Nat} (h1 : j + 1 < (Pl.zI (Pl.srt l)).length) (h0 : j < (Pl.zI (Pl.srt l)).length) : (Pl.zI (Pl.srt l))[j] < (Pl.zI (Pl.srt l))[j + 1] := by
  rw [Pl.zI_at, Pl.zI_at]
  rw [Pl.zI_len] at h1 h0
  have := List.pairwise_iff_getElem.1 (Pl.srt_up h) j (j + 1) h0 h1 (by omega)
  omega

set_option maxRecDepth 100000 in
set_option maxHeartbeats 16000000 in
theorem law_proofs (A : Option Addr) (l : List Pl.Bt) (c : Nat) (AR : Option Addr) (rows : List (List Int)) (cr : Nat) (AX : Option Addr) (xs : List Int) (cx : Nat) (hmc : rows.length ≤ cr) (hcm : cr ≤ maxLen) (hxc : xs.length ≤ cx) (hcx : cx ≤ maxLen) (w : World) (hI : Bts w A l) (hR : RR inL 1 w AR rows) (hX : Rows inL 1 w AX xs) :
    Calls Try.prog 7 #[.slice A l.length c, .slice AR rows.length cr, .slice AX xs.length cx] w fun e w' => e = .returned (.bool true) ∧ Below w.heap.size w w' := by
  have HI := Lib.hid hI
  have HR := Lib.hid hR
  have HX := Lib.hid hX
  have HS := Lib.hid sane_any
  obtain ⟨n, hn⟩ : ∃ n, l.length = n := ⟨_, rfl⟩
  obtain ⟨m, hm⟩ : ∃ m, rows.length = m := ⟨_, rfl⟩
  obtain ⟨k, hk⟩ : ∃ k, xs.length = k := ⟨_, rfl⟩
  obtain ⟨v, hv⟩ : ∃ v, Pl.lng rows = v := ⟨_, rfl⟩
  have HL := Lib.hid (fun W hR => long_b AR rows cr m hm (by omega) hcm v hv W hR)
  have HLN : Hid (v = false → m ≤ 60) := Lib.hid (fun h => by rw [← hm]; exact (Pl.lng_no (hv.trans h)).1)
  have HVL := Lib.hid (fun W hI => rvalid_any A l c W hI)
  have HRW := Lib.hid (fun W hI => Rows_any A l c n hn W hI)
  have HFW := Lib.hid (fun W hI => Fewest_any A l c n hn W hI)
  have HNO := Lib.hid (fun (h : Pl.vs l = false) W hI => Proof_no A l c n hn h W hI)
  have HPR := Lib.hid (fun (h : Pl.vs l = true) W hI => Proof_any A l c n hn h W hI)
  have HCM := Lib.hid (fun AZ cz r (hr : (Pl.rI l).length = r) (h : r ≤ 1000) W hI hR => rCheck_any A l c n hn AZ (Pl.rI l) cz r hr h W hI hR)
  have HC0 := Lib.hid (fun (h : Pl.vs l = true) => Pl.ck_made h)
  have HCK := Lib.hid (fun (h : m ≤ 1000) W hI hR => Check_any A l c n hn AR rows cr m hm h W hI hR)
  have HAP := Lib.hid (fun (h : k ≤ 1000) W hI hX => Apart_any A l c n hn AX xs cx k hk h (by omega) hcx W hI hX)
  have HRA := Lib.hid (fun AP cp r (hr : (Pl.zI (Pl.srt l)).length = r) (h : r ≤ 1000) W hI hX => rApart_any A l c n hn AP (Pl.zI (Pl.srt l)) cp r hr h W hI hX)
  have HM := Lib.hid hm
  have HK := Lib.hid hk
  have HN := Lib.hid hn
  rw [hn, hm, hk]
  rw [hn] at HVL
  clear hI hR hX hn hm hk hmc hcm hv hxc hcx
  have hB := Below.refl w.heap.size w
  by_cases hw : (40 : Int) < (n : Int)
  · have HW := Lib.hid (wide_b A n c 40 true (by simp [hw]))
    go_enter Try.func7, Try.ntmps7
    go_wp2_with fail
    refine (HW.out _).mono ?_
    rintro e w3 ⟨rfl, rfl⟩
    go_wp2_with fail
    refine (HS.out _).mono ?_
    rintro e w4 ⟨rfl, hb⟩
    go_wp2
    go_ret
    exact ⟨rfl, hb⟩
  have HW := Lib.hid (wide_b A n c 40 false (by simp [hw]))
  have hn4 : n ≤ 40 := by omega
  clear hw
  cases v
  rotate_left
  · go_enter Try.func7, Try.ntmps7
    go_wp2_with fail
    refine (HW.out _).mono ?_
    rintro e w3 ⟨rfl, hw3⟩
    obtain rfl : w = w3 := hw3.symm
    go_wp2_with fail
    refine (HL.out _ HR.out).mono ?_
    rintro e w3 ⟨rfl, hw3⟩
    obtain rfl : w = w3 := hw3.symm
    go_wp2_with fail
    refine (HS.out _).mono ?_
    rintro e w4 ⟨rfl, hb⟩
    go_wp2
    go_ret
    exact ⟨rfl, hb⟩
  have hm6 : m ≤ 60 := HLN.out rfl
  by_cases hk6 : (60 : Int) < (k : Int)
  · go_enter Try.func7, Try.ntmps7
    go_wp2_with fail
    refine (HW.out _).mono ?_
    rintro e w3 ⟨rfl, hw3⟩
    obtain rfl : w = w3 := hw3.symm
    go_wp2_with fail
    refine (HL.out _ HR.out).mono ?_
    rintro e w3 ⟨rfl, hw3⟩
    obtain rfl : w = w3 := hw3.symm
    go_wp2_with fail
    refine (HS.out _).mono ?_
    rintro e w4 ⟨rfl, hb⟩
    go_wp2
    go_ret
    exact ⟨rfl, hb⟩
  have hk6' : k ≤ 60 := by omega
  have HM1 : Hid (m ≤ 1000) := Lib.hid (by omega)
  have HK1 : Hid (k ≤ 1000) := Lib.hid (by omega)
  obtain ⟨x, hx⟩ : ∃ x, Pl.vs l = x := ⟨_, rfl⟩
  rw [hx] at HVL
  cases x
  · have HNP := Lib.hid (HNO.out hx)
    have HE : Hid (Pl.E l = 60 ∧ Pl.Rs l = []) := Lib.hid ⟨Pl.E_no hx, Pl.Rs_no hx⟩
    rw [HE.out.1, HE.out.2] at HRW HFW
    clear hx HNO HPR HCM HC0 HCK HAP HRA
    go_enter Try.func7, Try.ntmps7
    go_wp2_with fail
    refine (HW.out _).mono ?_
    rintro e w3 ⟨rfl, hw3⟩
    obtain rfl : w = w3 := hw3.symm
    go_wp2_with fail
    refine (HL.out _ HR.out).mono ?_
    rintro e w3 ⟨rfl, hw3⟩
    obtain rfl : w = w3 := hw3.symm
    go_wp2_with fail
    refine (HNP.out _ HI.out).mono ?_
    rintro e w1 ⟨rfl, hb1⟩
    have HI1 := Lib.hid (HI.out.below hb1)
    go_wp2_with fail
    refine (HRW.out _ HI1.out).mono ?_
    rintro e w2 ⟨v2, f2, rfl, hR2, hb2⟩
    obtain ⟨A2, c2, rfl, _⟩ := hR2.open encIr
    have hB2 := hb1.trans (hb2.mono hb1.size)
    have HI2 := Lib.hid (HI1.out.below hb2)
    clear hR2 hb2 hb1 HI1
    go_wp2_with fail
    refine (HFW.out _ HI2.out).mono ?_
    rintro e w3 ⟨rfl, hb3⟩
    have hB3 := hB2.trans (hb3.mono hB2.size)
    have HI3 := Lib.hid (HI2.out.below hb3)
    clear hb3 hB2 HI2
    go_wp2_with fail
    refine (HVL.out _ HI3.out).mono ?_
    rintro e w4 ⟨rfl, hb4⟩
    have hB4 := hB3.trans (hb4.mono hB3.size)
    clear hb4 hB3 HI3
    go_wp2_with fail
    refine (HS.out _).mono ?_
    rintro e w5 ⟨rfl, hb5⟩
    have hB5 := hB4.trans (hb5.mono hB4.size)
    go_wp2
    go_ret
    exact ⟨rfl, hB5⟩
  have hok := Pl.ok_of hx
  obtain ⟨r, hr⟩ : ∃ r, Pl.nr l = r := ⟨_, rfl⟩
  have hr4 : r ≤ 40 := by have h1 := Pl.nr_le hok; have h2 := HN.out; omega
  have HRS : Hid ((Pl.Rs l).length = r) := Lib.hid (by rw [Pl.Rs_ok hx]; exact hr)
  have HRI : Hid ((Pl.rI l).length = r) := Lib.hid (by unfold Pl.rI; rw [List.length_map]; exact HRS.out)
  have HSL : Hid ((Pl.zI (Pl.srt l)).length = r) := Lib.hid (by rw [Pl.zI_len, Pl.srt_len hok, hr])
  have HSN : Hid ((Pl.srt l).length = r) := Lib.hid (by rw [Pl.srt_len hok, hr])
  have HE : Hid (Pl.E l = 0) := Lib.hid (Pl.E_ok hx)
  have HRZ : Hid (∀ W A', RR irc 1 W A' (Pl.Rs l) → RR inL 1 W A' (Pl.rI l)) := Lib.hid (fun W A' h => rr_zI h)
  have HPP := Lib.hid (HPR.out hx)
  have HC00 := Lib.hid (HC0.out hx)
  have hr1 : r ≤ 1000 := by omega
  have HCM2 := Lib.hid (fun AZ cz W hI hR => HCM.out AZ cz r HRI.out hr1 W hI hR)
  rw [HC00.out] at HCM2
  have HRA2 := Lib.hid (fun AP cp W hI hX => HRA.out AP cp r HSL.out hr1 W hI hX)
  have HA1 : Hid (Pl.apV l (Pl.zI (Pl.srt l)) = true ∧ Pl.clE l (Pl.zI (Pl.srt l)) = 0) := Lib.hid (by
    have h1 := Pl.clE_ok hx (Pl.srt_cho hok)
    refine ⟨?_, h1⟩
    unfold Pl.apV
    rw [if_pos h1]; exact Pl.srt_apB hok)
  rw [HA1.out.1, HA1.out.2] at HRA2
  have HRISE : Hid (∀ (j : Nat) (h1 : j + 1 < (Pl.zI (Pl.srt l)).length) (h0 : j < (Pl.zI (Pl.srt l)).length), (Pl.zI (Pl.srt l))[j] < (Pl.zI (Pl.srt l))[j + 1]) := Lib.hid (fun j h1 h0 => Pl.srt_rise hok h1 h0)
  have HV0 : Hid (Pl.ckE l rows = 0 → r ≤ m) := Lib.hid (fun h => by
    rw [Pl.ckE_ok hx] at h
    have := Pl.rows_le hok h
    rw [hr, HM.out] at this; exact this)
  have HX0 : Hid (Pl.apV l xs = true → Pl.clE l xs = 0 ∧ k ≤ r) := Lib.hid (fun h => by
    unfold Pl.apV at h
    by_cases h0 : Pl.clE l xs = 0
    · rw [if_pos h0] at h
      refine ⟨h0, ?_⟩
      have hc : Pl.cho l.length xs = true := by
        cases hc : Pl.cho l.length xs
        · rw [Pl.clE_bad hx hc] at h0; cases h0
        · rfl
      have := Pl.list_le hok hc h
      rw [hr, HK.out] at this; exact this
    · rw [if_neg h0] at h; cases h)
  rw [HE.out] at HRW HFW
  rw [HRS.out] at HFW
  rw [hr] at HPP
  clear hx hok hr HNO HPR HCM HC0 HRA HA1 HE HC00
  generalize Pl.ckE l rows = V at *
  generalize Pl.apV l xs = a1 at *
  generalize Pl.clE l xs = a2 at *
  go_enter Try.func7, Try.ntmps7
  go_wp2_with fail
  refine (HW.out _).mono ?_
  rintro e w3 ⟨rfl, hw3⟩
  obtain rfl : w = w3 := hw3.symm
  go_wp2_with fail
  refine (HL.out _ HR.out).mono ?_
  rintro e w3 ⟨rfl, hw3⟩
  obtain rfl : w = w3 := hw3.symm
  go_wp2_with fail
  refine (HPP.out _ HI.out).mono ?_
  rintro e w1 ⟨p, rfl, hown, hb1⟩
  obtain ⟨AP, cp, rfl, hrp, _, _⟩ := rows_of_owns encIr (xs := Pl.srt l) (by rw [HSN.out]; exact hown)
  rw [HSN.out]
  have HP1 := Lib.hid (rows_zI hrp)
  have HI1 := Lib.hid (HI.out.below hb1)
  clear hown hrp
  go_wp2_with fail
  refine (HRW.out _ HI1.out).mono ?_
  rintro e w2 ⟨v2, f2, rfl, hR2, hb2⟩
  obtain ⟨A2, c2, rfl, hrr2, _⟩ := hR2.open encIr
  rw [HRS.out]
  have hB2 := hb1.trans (hb2.mono hb1.size)
  have HI2 := Lib.hid (HI1.out.below hb2)
  have HP2 := Lib.hid (HP1.out.below hb2)
  have HZ2 := Lib.hid (HRZ.out _ _ hrr2)
  clear hR2 hrr2 hb2 hb1 HI1 HP1
  go_wp2_with fail
  refine (HFW.out _ HI2.out).mono ?_
  rintro e w3 ⟨rfl, hb3⟩
  have hB3 := hB2.trans (hb3.mono hB2.size)
  have HI3 := Lib.hid (HI2.out.below hb3)
  have HP3 := Lib.hid (HP2.out.below hb3)
  have HZ3 := Lib.hid (HZ2.out.below hb3)
  clear hb3 hB2 HI2 HP2 HZ2
  go_wp2_with fail
  refine (HVL.out _ HI3.out).mono ?_
  rintro e w4 ⟨rfl, hb4⟩
  have hB4 := hB3.trans (hb4.mono hB3.size)
  have HI4 := Lib.hid (HI3.out.below hb4)
  have HP4 := Lib.hid (HP3.out.below hb4)
  have HZ4 := Lib.hid (HZ3.out.below hb4)
  clear hb4 hB3 HI3 HP3 HZ3
  go_wp2_with fail
  refine (HCM2.out _ _ _ HI4.out HZ4.out).mono ?_
  rintro e w5 ⟨rfl, hb5⟩
  have hB5 := hB4.trans (hb5.mono hB4.size)
  have HP5 := Lib.hid (HP4.out.below hb5)
  clear hb5 hB4 HI4 HP4 HZ4
  go_wp2
  go_loopw [13] (fun i wr => ∃ j : Nat, 1 ≤ j ∧ (j ≤ r ∨ j = 1) ∧ i = .int .i64 j ∧ Below w.heap.size w wr ∧ Below w5.heap.size w5 wr) (fun i _ => r - (intOf i).toNat)
  case atStart => exact ⟨1, Nat.le_refl _, .inr rfl, rfl, hB5, Below.refl _ _⟩
  case round =>
    clear hB5
    obtain ⟨j0, hj1, hj2, rfl, hW, hW5⟩ := hrel
    obtain ⟨wo, rfl⟩ : ∃ wo, wo = wr := ⟨_, rfl⟩
    by_cases hlt : j0 < r
    · obtain ⟨j, rfl⟩ : ∃ j, j0 = j + 1 := ⟨j0 - 1, by omega⟩
      have hltI : ((j + 1 : Nat) : Int) < (r : Int) := by omega
      have hkx : j + 1 < (Pl.zI (Pl.srt l)).length := by rw [HSL.out]; exact hlt
      have hjx : j < (Pl.zI (Pl.srt l)).length := by omega
      obtain ⟨bx, ox, rfl, hbx, hcx⟩ := HP5.out.open (by omega)
      have p0' := row_cell (mk := Value.int .i64) hbx hcx hW5 hkx
      have p1' := row_cell (mk := Value.int .i64) hbx hcx hW5 hjx
      have hrs := HRISE.out j hkx hjx
      generalize (Pl.zI (Pl.srt l))[j + 1] = b at *
      generalize (Pl.zI (Pl.srt l))[j] = a at *
      have p0 := fun s : Ext wo => s.cell (p := ⟨bx, ox + (j + 1), none⟩) p0'
      have p1 := fun s : Ext wo => s.cell (p := ⟨bx, ox + j, none⟩) p1'
      have hjI : (j : Int) < (r : Int) := by omega
      have hba : ¬ b ≤ a := by omega
      have k1 : IntKind.i64.wrap (((j + 1 : Nat) : Int) - 1) = (j : Int) := by rw [show ((j + 1 : Nat) : Int) - 1 = (j : Int) from by omega]; exact IntWalk.i64_in _ (by omega)
      have k2 : ((j + 1 : Nat) : Int) - 1 = (j : Int) := by omega
      clear hcx p0' p1' hj1 hj2
      go_wp2
      refine wp_region_ext (by kernel_rfl) (by kernel_rfl) ?_
      repeat (go_big_quiet_step (fail))
      refine wpQuiet_nil ?_
      rintro _ ⟨s, rfl⟩
      go_wp2
      go_roundw
      case rel => exact ⟨j + 1 + 1, by omega, by omega, by go_num, hW.trans (s.h.mono hW.size), hW5.trans (s.h.mono hW5.size)⟩
      case measure => simp [intOf]; omega
    · have hnI : ¬ (j0 : Int) < (r : Int) := by omega
      have HI5 := Lib.hid (HI.out.below hW)
      have HP6 := Lib.hid (HP5.out.below hW5)
      clear hW5
      go_wp2_with fail
      refine (HRA2.out _ _ _ HI5.out HP6.out).mono ?_
      rintro e w6 ⟨rfl, hb6⟩
      have hB6 := hW.trans (hb6.mono hW.size)
      have HI6 := Lib.hid (HI.out.below hB6)
      have HR6 := Lib.hid (HR.out.below hB6)
      have HX6 := Lib.hid (HX.out.below hB6)
      clear hb6 hW
      go_wp2_with fail
      refine (HCK.out HM1.out _ HI6.out HR6.out).mono ?_
      rintro e w7 ⟨rfl, hb7⟩
      have hB7 := hB6.trans (hb7.mono hB6.size)
      have HI7 := Lib.hid (HI6.out.below hb7)
      have HX7 := Lib.hid (HX6.out.below hb7)
      clear hb7 hB6 HI6 HX6 HR6
      have hcase : (V = 0 ∧ ¬ (m : Int) < (r : Int)) ∨ (V == 0) = false := by
        by_cases h : V = 0
        · exact .inl ⟨h, by have := HV0.out h; omega⟩
        · exact .inr (by simp [h])
      have hcase2 : (a1 = true ∧ a2 = 0 ∧ ¬ (r : Int) < (k : Int)) ∨ a1 = false := by
        cases a1
        · exact .inr rfl
        · obtain ⟨h1, h2⟩ := HX0.out rfl
          exact .inl ⟨rfl, h1, by omega⟩
      clear HV0 HX0
      rcases hcase with ⟨rfl, hmr⟩ | hV
      all_goals
        go_wp2_with fail
        refine (HAP.out HK1.out _ HI7.out HX7.out).mono ?_
        rintro e w8 ⟨rfl, hb8⟩
        have hB8 := hB7.trans (hb8.mono hB7.size)
        rcases hcase2 with ⟨rfl, rfl, hkr⟩ | rfl
        all_goals
          go_wp2_with fail
          refine (HS.out _).mono ?_
          rintro e w9 ⟨rfl, hb9⟩
          have hB9 := hB8.trans (hb9.mono hB8.size)
          go_wp2
          go_ret
          exact ⟨rfl, hB9⟩
end Go.Proofs.Ytlfbfdhdkccaeaa
