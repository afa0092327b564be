/- OrderShares. -/
import Derived.Test.YtdihnbjmeppbcaaDoorWA
namespace Go.Proofs.YtdihnbjmeppbcaaDoor
open Go.RowKit Go.Shelf

set_option maxRecDepth 100000 in
set_option maxHeartbeats 8000000 in
theorem law_shares (x : Int) (A : Option Addr) (l : List Int) (c m : Nat) (hm : l.length = m) (hm6 : m ≤ maxLen) (w : World) (hI : Rows inL 1 w A l) :
    Calls Tryd.prog 11 #[.int .i64 x, .slice A m c] w fun e w' => e = .returned (.bool true) ∧ Below w.heap.size w w' := by
  have HS := Lib.hid (Split_b x A l c m hm hm6 w hI)
  have HC := Lib.hid sane_any
  have hm63 : m ≤ 9223372036854775807 := by unfold maxLen at hm6; omega
  obtain ⟨E, hE⟩ : ∃ E, Pl.spE x l = E := ⟨_, rfl⟩
  rw [hE] at HS
  by_cases h0 : E = 0
  rotate_left
  · have HV := Lib.hid (spV_no (x := x) (l := l) (by rw [hE]; exact h0))
    clear hE hI hm hm6
    go_enter Tryd.func11, Tryd.ntmps11
    go_wp2_with fail
    refine HS.out.mono ?_
    rintro e w1 ⟨v, rfl, ho, hb⟩
    rw [HV.out] at ho
    obtain ⟨A1, c1, rfl, _⟩ := rows_of_owns encIn ho
    clear ho
    go_wp2_with fail
    refine (HC.out _).mono ?_
    rintro e w2 ⟨rfl, hb2⟩
    have hB2 := hb.trans (hb2.mono hb.size)
    go_wp2
    go_ret
    exact ⟨rfl, hB2⟩
  subst h0
  have hsp := Pl.Sp.of hE
  have HV : Hid (Pl.spV x l = Pl.tab (Pl.shr x l) m) := Lib.hid (by rw [spV_zero hE, hm])
  by_cases hr : x < -1000000000000
  · clear hE hI hm hm6
    go_enter Tryd.func11, Tryd.ntmps11
    go_wp2_with fail
    refine HS.out.mono ?_
    rintro e w1 ⟨v, rfl, ho, hb⟩
    rw [HV.out] at ho
    obtain ⟨A1, c1, rfl, _⟩ := rows_of_owns encIn ho
    clear ho
    go_wp2_with fail
    refine (HC.out _).mono ?_
    rintro e w2 ⟨rfl, hb2⟩
    have hB2 := hb.trans (hb2.mono hb.size)
    go_wp2
    go_ret
    exact ⟨rfl, hB2⟩
  by_cases hr2 : x > 1000000000000
  · clear hE hI hm hm6
    go_enter Tryd.func11, Tryd.ntmps11
    go_wp2_with fail
    refine HS.out.mono ?_
    rintro e w1 ⟨v, rfl, ho, hb⟩
    rw [HV.out] at ho
    obtain ⟨A1, c1, rfl, _⟩ := rows_of_owns encIn ho
    clear ho
    go_wp2_with fail
    refine (HC.out _).mono ?_
    rintro e w2 ⟨rfl, hb2⟩
    have hB2 := hb.trans (hb2.mono hb.size)
    go_wp2
    go_ret
    exact ⟨rfl, hB2⟩
  have hm100 : m ≤ 100 := by rw [← hm]; exact hsp.len
  obtain ⟨a, hal⟩ : ∃ a, Pl.al l = a := ⟨_, rfl⟩
  have ha1 : 1 ≤ a := by rw [← hal]; exact hsp.pos
  have ha2 : a ≤ 1000000 := by rw [← hal]; exact hsp.top
  have HCU := Lib.hid (fun k (hk : k ≤ m) => Pl.cu_top hsp.w hsp.len (k := k) (by omega))
  have HPT : Hid (∀ k, k ≤ m → -1099511627776 ≤ Pl.sm (Pl.shr x l) k ∧ Pl.sm (Pl.shr x l) k ≤ 1099511627776) := Lib.hid (fun k hk => by rw [Pl.sm_shr]; exact hsp.part (by omega))
  have HALL : Hid (Pl.sm (Pl.shr x l) m = x) := Lib.hid (by rw [← hm]; exact hsp.all)
  have HGAP : Hid (∀ k, Pl.shr x l k * a - x * Pl.el l k < a ∧ -a < Pl.shr x l k * a - x * Pl.el l k) := Lib.hid (fun k => by rw [← hal]; exact hsp.gap k)
  have HWT := Lib.hid (fun k (hk : k < m) => Pl.wok_get hsp.w (k := k) (by omega))
  have HZ := Lib.hid (fun k => Pl.shr_zero (c := x) (l := l) (k := k))
  have HCA : Hid (Pl.cu l m = a) := Lib.hid (by rw [← hal, ← hm]; rfl)
  have HXR : Hid (-1000000000000 ≤ x ∧ x ≤ 1000000000000) := Lib.hid (by omega)
  have HI := Lib.hid hI
  have HM := Lib.hid hm
  have HSV : Hid (∀ k, k < m → -1099511627776 ≤ Pl.shr x l k ∧ Pl.shr x l k ≤ 1099511627776) := Lib.hid (fun k hk => by
    have g := HGAP.out k
    have hw := HWT.out k hk
    have hxw := Pl.mul_le HXR.out.1 HXR.out.2 hw.1 hw.2 (by decide)
    rcases Int.lt_or_le 1099511627776 (Pl.shr x l k) with h | h
    · exfalso
      have h1 := hsp.part (k := k + 1) (by omega)
      have h2 := hsp.part (k := k) (by omega)
      have h3 : Pl.shr x l k * a - x * Pl.el l k < a := g.1
      -- the share is the difference of two parts between 0 and x, or x and 0
      have h5 := Pl.cu_le hsp.w (k := k) (by omega)
      have h6 : x * Pl.el l k ≤ 1000000000000 * Pl.el l k := Int.mul_le_mul_of_nonneg_right HXR.out.2 hw.1
      have h7 : Pl.el l k ≤ a := by
        have := Pl.cu_le hsp.w (k := k + 1) (by omega)
        have e : Pl.cu l (k + 1) = Pl.cu l k + Pl.el l k := rfl
        omega
      have h8 : 1000000000000 * Pl.el l k ≤ 1000000000000 * a := Int.mul_le_mul_of_nonneg_left h7 (by decide)
      have h9 : 1099511627777 * a ≤ Pl.shr x l k * a := Int.mul_le_mul_of_nonneg_right (by omega) (by omega)
      omega
    · refine ⟨?_, h⟩
      rcases Int.lt_or_le (Pl.shr x l k) (-1099511627776) with h | h
      · exfalso
        have h6 : -1000000000000 * Pl.el l k ≤ x * Pl.el l k := Int.mul_le_mul_of_nonneg_right HXR.out.1 hw.1
        have h7 : Pl.el l k ≤ a := by
          have h5 := Pl.cu_le hsp.w (k := k) (by omega)
          have := Pl.cu_le hsp.w (k := k + 1) (by omega)
          have e : Pl.cu l (k + 1) = Pl.cu l k + Pl.el l k := rfl
          omega
        have h8 : 1000000000000 * Pl.el l k ≤ 1000000000000 * a := Int.mul_le_mul_of_nonneg_left h7 (by decide)
        have h9 : Pl.shr x l k * a ≤ -1099511627777 * a := Int.mul_le_mul_of_nonneg_right (by omega) (by omega)
        omega
      · exact h)
  clear hE hI hm hm6 hsp hal
  go_enter Tryd.func11, Tryd.ntmps11
  go_wp2_with fail
  refine HS.out.mono ?_
  rintro e w1 ⟨v, rfl, ho, hb⟩
  rw [HV.out] at ho
  obtain ⟨A1, c1, rfl, hr1, _, _⟩ := rows_of_owns encIn ho
  rw [Pl.tab_len]
  have hI1 := HI.out.below hb
  have HR1 := Lib.hid hr1
  have HI1 := Lib.hid hI1
  have HE1 : Hid (∀ k (hk : k < (Pl.tab (Pl.shr x l) m).length), (Pl.tab (Pl.shr x l) m)[k] = Pl.shr x l k) := Lib.hid (fun k hk => Pl.tab_get _ hk)
  have HL1 : Hid ((Pl.tab (Pl.shr x l) m).length = m) := Lib.hid (Pl.tab_len _ _)
  have HB := Lib.hid hb
  obtain ⟨T, hT⟩ : ∃ T, Pl.tab (Pl.shr x l) m = T := ⟨_, rfl⟩
  rw [hT] at HR1 HE1 HL1
  clear ho hr1 hI1 hb hT HS HV
  go_wp2
  go_loop [7, 8, 9] (fun u v i => ∃ k : Nat, k ≤ m ∧ i = .int .i64 k ∧ u = .int .i64 (Pl.cu l k) ∧ v = .int .i64 (Pl.sm (Pl.shr x l) k)) (fun _ _ i => m - (intOf i).toNat)
  case atStart => exact ⟨0, Nat.zero_le _, rfl, rfl, rfl⟩
  case round =>
    obtain ⟨k, hk, rfl, rfl, rfl⟩ := hrel
    by_cases hlt : k < m
    · have hltI : (k : Int) < (m : Int) := by omega
      have hkx : k < l.length := by rw [HM.out]; exact hlt
      obtain ⟨bx, ox, rfl, hbx, hcx⟩ := HI1.out.open (by omega)
      have q0 := row_cell (mk := Value.int .i64) hbx hcx (Below.refl _ _) hkx
      rw [el_at hkx] at q0
      obtain ⟨by', oy, rfl, hby, hcy⟩ := HR1.out.open (by rw [HL1.out]; omega)
      have p0 := row_cell (mk := Value.int .i64) hby hcy (Below.refl _ _) (i := k) (by rw [HL1.out]; exact hlt)
      rw [HE1.out k (by rw [HL1.out]; exact hlt)] at p0
      have e1 : Pl.cu l k + Pl.el l k = Pl.cu l (k + 1) := rfl
      have e2 : Pl.sm (Pl.shr x l) k + Pl.shr x l k = Pl.sm (Pl.shr x l) (k + 1) := rfl
      have b1 := HCU.out (k + 1) (by omega)
      have b2 := HPT.out (k + 1) (by omega)
      rw [← e1] at b1
      rw [← e2] at b2
      have E1 := Lib.hid e1
      have E2 := Lib.hid e2
      clear hcx hcy e1 e2
      generalize Pl.cu l k = U at *
      generalize Pl.sm (Pl.shr x l) k = V at *
      generalize Pl.el l k = u at *
      generalize Pl.shr x l k = v at *
      have k1 : IntKind.i64.wrap (U + u) = U + u := IntWalk.i64_in _ (by omega)
      have k2 : IntKind.i64.wrap (V + v) = V + v := IntWalk.i64_in _ (by omega)
      clear b1 b2
      go_wp2
      go_round
      case rel => exact ⟨k + 1, by omega, by go_num, by rw [E1.out], by rw [E2.out]⟩
      case measure => simp [intOf]; omega
    · obtain rfl : k = m := by omega
      rw [HCA.out, HALL.out]
      have ka : IntKind.i64.wrap (-a) = -a := IntWalk.i64_in _ (by omega)
      go_wp2
      go_loopw [10] (fun i wr => ∃ j : Nat, j ≤ k ∧ i = .int .i64 j ∧ Below w1.heap.size w1 wr) (fun i _ => k - (intOf i).toNat)
      case atStart => exact ⟨0, Nat.zero_le _, rfl, Below.refl _ _⟩
      case round =>
        obtain ⟨j, hj, rfl, hW⟩ := hrel
        obtain ⟨wo, rfl⟩ : ∃ wo, wo = wr := ⟨_, rfl⟩
        by_cases hjt : j < k
        · have hjtI : (j : Int) < (k : Int) := by omega
          have hkx : j < l.length := by rw [HM.out]; exact hjt
          obtain ⟨bx, ox, rfl, hbx, hcx⟩ := HI1.out.open (by omega)
          obtain ⟨by', oy, rfl, hby, hcy⟩ := HR1.out.open (by rw [HL1.out]; omega)
          have q0 := row_cell (mk := Value.int .i64) hbx hcx hW hkx
          rw [el_at hkx] at q0
          have p0 := row_cell (mk := Value.int .i64) hby hcy hW (i := j) (by rw [HL1.out]; exact hjt)
          rw [HE1.out j (by rw [HL1.out]; exact hjt)] at p0
          have hg := HGAP.out j
          have hw := HWT.out j hjt
          have HZj := Lib.hid (HZ.out j)
          have hsv := HSV.out j hjt
          clear hcx hcy
          generalize Pl.el l j = u at *
          generalize Pl.shr x l j = v at *
          have HF := Lib.hid (fun w' => far_b x u a v ha1 ha2 hw.1 hw.2 HXR (Lib.hid hsv) (Lib.hid hg) w')
          have z0 := fun e : Ext wo => e.cell q0
          have z1 := fun e : Ext wo => e.cell p0
          obtain ⟨d, hd⟩ : ∃ d, v * a - x * u = d := ⟨_, rfl⟩
          rw [hd] at hg HF
          clear hd hsv q0 p0
          go_wp2
          refine wp_region_ext (by kernel_rfl) (by kernel_rfl) ?_
          repeat (go_big_quiet_step (first | (go_at_call 41; refine calls_ext (HF.out _))))
          refine wpQuiet_nil ?_
          rintro _ ⟨z, rfl⟩
          have hW2 := hW.trans (z.h.mono hW.size)
          have q1 := z0 z
          have p1 := z1 z
          clear z0 z1
          generalize z.w = w2 at *
          clear z
          have d1 : decide (d ≤ -a) = false := decide_eq_false (by omega)
          have d2 : decide (d ≥ a) = false := decide_eq_false (by omega)
          by_cases hu0 : u = 0
          · have hv0 : v = 0 := HZj.out hu0
            subst hu0 hv0
            go_wp2
            go_roundw
            case rel => exact ⟨j + 1, by omega, by go_num, hW2⟩
            case measure => simp [intOf]; omega
          · have d3 : (u == 0) = false := by simpa using hu0
            go_wp2
            go_roundw
            case rel => exact ⟨j + 1, by omega, by go_num, hW2⟩
            case measure => simp [intOf]; omega
        · obtain rfl : j = k := by omega
          go_wp2_with fail
          refine (HC.out _).mono ?_
          rintro e w2 ⟨rfl, hb2⟩
          have hB2 := HB.out.trans ((hW.trans (hb2.mono hW.size)).mono HB.out.size)
          go_wp2
          go_ret
          exact ⟨rfl, hB2⟩
end Go.Proofs.YtdihnbjmeppbcaaDoor
