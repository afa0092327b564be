/- Apart, Length, of the program and of the document. -/
import Derived.Test.YtlfbfdhdkccaeaaGreatD2
namespace Go.Proofs.YtlfbfdhdkccaeaaGreat
open Go.RowKit Go.Shelf Go.Sort

set_option maxRecDepth 100000 in
set_option maxHeartbeats 2000000 in
theorem Length_any (A : Option Addr) (l : List Pl.Bt) (c n : Nat) (hn : l.length = n) (AX : Option Addr) (xs : List Int) (cx m : Nat) (hm : xs.length = m) (hm4 : m ≤ 1000) (w : World) (hI : Bts w A l) (hX : Rows inL 1 w AX xs) :
    Calls Tryz.prog 12 #[.slice A n c, .slice AX m cx] w fun e w' => e = .returned (.tuple #[.int .i64 (Pl.lnV l xs), .int .i64 (Pl.clE l xs)]) ∧ Below w.heap.size w w' := by
  have HC := Lib.hid (checkList_b A l c n hn AX xs cx m hm (by unfold maxLen; omega) _ rfl w hI hX)
  obtain ⟨V, hV⟩ : ∃ V, Pl.lnV l xs = V := ⟨_, rfl⟩
  obtain ⟨r, hr⟩ : ∃ r, Pl.clE l xs = r := ⟨_, rfl⟩
  have HV : Hid (V = if r = 0 then Pl.lnk l xs m else 0) := Lib.hid (by rw [← hV, ← hr, ← hm]; rfl)
  rw [hV, hr]
  rw [hr] at HC
  by_cases h0 : r = 0
  · subst h0
    have hvs : Pl.vs l = true := by
      cases h : Pl.vs l with
      | true => rfl
      | false => rw [Pl.clE_no h] at hr; cases hr
    have hch : Pl.cho l.length xs = true := by
      cases h : Pl.cho l.length xs with
      | true => rfl
      | false => rw [Pl.clE_bad hvs h] at hr; cases hr
    have HVV : Hid (V = Pl.lnk l xs m) := Lib.hid (by rw [HV.out, if_pos rfl])
    have hok := Pl.ok_of hvs
    have HBD := Lib.hid (fun k (hk : k ≤ m) => Pl.lnk_bd hok hch k (by omega))
    have HVB := Lib.hid (fun k (hk : k < m) => Pl.bx_vb hok hch (i := k) (by omega))
    have HIX := Lib.hid (fun k (hk : k < xs.length) => Pl.idx_lt hch hk)
    have HLS : Hid (∀ k, Pl.lnk l xs (k + 1) = Pl.lnk l xs k + Pl.len (Pl.bx l xs k)) := Lib.hid (fun _ => rfl)
    have HI := Lib.hid hI
    have HX := Lib.hid hX
    have HM := Lib.hid hm
    have HN := Lib.hid hn
    clear hI hX hn hm hr hV hvs hch hok HV
    go_enter Tryz.func12, Tryz.ntmps12
    go_wp2_with fail
    refine HC.out.mono ?_
    rintro e w1 ⟨rfl, hb1⟩
    clear HC
    go_wp2
    go_loopw [7, 9, 18] (fun s _ i wr => ∃ k : Nat, k ≤ m ∧ i = .int .i64 k ∧ s = .int .i64 (Pl.lnk l xs k) ∧ Below w.heap.size w wr) (fun _ _ i _ => m - (intOf i).toNat)
    case atStart => exact ⟨0, Nat.zero_le _, rfl, rfl, hb1⟩
    case round =>
      obtain ⟨k, hk, rfl, rfl, hW⟩ := hrel
      obtain ⟨wo, rfl⟩ : ∃ wo, wo = wr := ⟨_, rfl⟩
      by_cases hlt : k < m
      · have hltI : (k : Int) < (m : Int) := by omega
        have hkx : k < xs.length := by rw [HM.out]; exact hlt
        obtain ⟨bx, ox, rfl, hbx, hcX⟩ := HX.out.open (by omega)
        have q0 := row_cell (mk := Value.int .i64) hbx hcX hW hkx
        obtain ⟨p, hp, hpn⟩ := HIX.out k hkx
        have HP := Lib.hid (Pl.bx_eq (l := l) hkx hp)
        rw [hp] at q0
        have hpI : (p : Int) < (n : Int) := by have := HN.out; omega
        obtain ⟨bz, oz, rfl, hbz, hcz⟩ := bts_open HI.out (by omega)
        have r1 := bts_cells hbz hcz hW hpn
        have hvb := HVB.out k hlt
        obtain ⟨b1, b2⟩ := HBD.out k hk
        obtain ⟨b3, b4⟩ := HBD.out (k + 1) hlt
        have HS := Lib.hid (HLS.out k)
        rw [HS.out] at b3 b4
        have HLB := Lib.hid (fun w' => length_b (Pl.bx l xs k) hvb w')
        have HS2 : Hid (Pl.lnk l xs (k + 1) = Pl.lnk l xs k + Pl.len (Pl.at' l p)) := Lib.hid (by rw [HS.out, HP.out])
        rw [HP.out] at HLB b3 b4
        clear hcX hcz hp hvb HS
        generalize Pl.lnk l xs k = S at *
        generalize Pl.at' l p = E at *
        have k1 : IntKind.i64.wrap (S + Pl.len E) = S + Pl.len E := IntWalk.i64_in _ (by omega)
        go_wp2_with (refine ldm_bt r1 rfl _ rfl rfl ?_)
        refine (HLB.out _).mono ?_
        rintro e w3 ⟨rfl, hb3⟩
        have hW3 := hW.trans (hb3.mono hW.size)
        clear hb3 r1 q0
        go_wp2
        go_roundw
        case rel => exact ⟨k + 1, by omega, by go_num, by rw [HS2.out], hW3⟩
        case measure => simp [intOf]; omega
      · obtain rfl : k = m := by omega
        go_wp2
        go_ret2
        exact ⟨by rw [HVV.out]; rfl, hW⟩
  · have h1 : (r != 0) = true := by simp [h0]
    have HF : Hid (V = 0) := Lib.hid (by rw [HV.out, if_neg h0])
    clear hI hX hn hm hr hV h0
    go_enter Tryz.func12, Tryz.ntmps12
    go_wp2_with fail
    refine HC.out.mono ?_
    rintro e w1 ⟨rfl, hb1⟩
    go_wp2
    go_ret2
    exact ⟨by rw [HF.out]; rfl, hb1⟩

set_option maxRecDepth 100000 in
set_option maxHeartbeats 4000000 in
theorem rApart_any (A : Option Addr) (l : List Pl.Bt) (c n : Nat) (hn : l.length = n) (AX : Option Addr) (xs : List Int) (cx m : Nat) (hm : xs.length = m) (hm4 : m ≤ 1000) (w : World) (hI : Bts w A l) (hX : Rows inL 1 w AX xs) :
    Calls Tryz.prog 10 #[.slice A n c, .slice AX m cx] w fun e w' => e = .returned (.tuple #[.bool (Pl.apV l xs), .int .i64 (Pl.clE l xs)]) ∧ Below w.heap.size w w' := by
  have HC := Lib.hid (rvalid_any A l c w hI)
  obtain ⟨V, hV⟩ : ∃ V, Pl.apV l xs = V := ⟨_, rfl⟩
  obtain ⟨r, hr⟩ : ∃ r, Pl.clE l xs = r := ⟨_, rfl⟩
  have HV : Hid (V = if r = 0 then Pl.apB l xs else false) := Lib.hid (by rw [← hV, ← hr]; rfl)
  rw [hV, hr]
  obtain ⟨x, hx⟩ : ∃ x, Pl.vs l = x := ⟨_, rfl⟩
  rw [hx, hn] at HC
  cases x
  · have HF : Hid (V = false ∧ r = 60) := Lib.hid (by
      have h6 : r = 60 := by rw [← hr, Pl.clE_no hx]
      exact ⟨by rw [HV.out, if_neg (by omega)], h6⟩)
    clear hI hX hn hm hr hV hx
    go_enter Tryz.func10, Tryz.ntmps10
    go_wp2_with fail
    refine HC.out.mono ?_
    rintro e w1 ⟨rfl, hb1⟩
    go_wp2
    go_ret2
    exact ⟨by rw [HF.out.1, HF.out.2]; rfl, hb1⟩
  have hn4 : n ≤ 40 := hn ▸ (Pl.ok_of hx).len
  obtain ⟨y, hy⟩ : ∃ y, Pl.cho n xs = y := ⟨_, rfl⟩
  have HCH := Lib.hid (fun w' hX => chosen_b A c n (by omega) AX xs cx m hm (by unfold maxLen; omega) y hy w' hX)
  have HX := Lib.hid hX
  cases y
  · have HF : Hid (V = false ∧ r = 2) := Lib.hid (by
      have h6 : r = 2 := by rw [← hr, Pl.clE_bad hx (by rw [hn]; exact hy)]
      exact ⟨by rw [HV.out, if_neg (by omega)], h6⟩)
    clear hI hX hn hm hr hV hx hy
    go_enter Tryz.func10, Tryz.ntmps10
    go_wp2_with fail
    refine HC.out.mono ?_
    rintro e w1 ⟨rfl, hb1⟩
    have HX1 := Lib.hid (HX.out.below hb1)
    go_wp2_with fail
    refine (HCH.out _ HX1.out).mono ?_
    rintro e w2 ⟨rfl, hb2⟩
    go_wp2
    go_ret2
    exact ⟨by rw [HF.out.1, HF.out.2]; rfl, hb1.trans (hb2.mono hb1.size)⟩
  have HR : Hid (r = 0) := Lib.hid (by rw [← hr, Pl.clE_ok hx (by rw [hn]; exact hy)])
  have HVV : Hid (V = Pl.apB l xs) := Lib.hid (by rw [HV.out, if_pos HR.out])
  have HV1 : Hid (Pl.apk l xs m → V = true) := Lib.hid (fun h => by rw [HVV.out]; exact decide_eq_true (by rw [hm]; exact h))
  have HV2 : Hid (∀ i j, i < m → j < i → Pl.apt (Pl.bx l xs i) (Pl.bx l xs j) = false → V = false) := Lib.hid (fun i j hi hj h => by rw [HVV.out]; exact Pl.apB_no (by rw [hm]; exact hi) hj h)
  have HIX := Lib.hid (fun k (hk : k < xs.length) => Pl.idx_lt hy hk)
  have HI := Lib.hid hI
  have HM := Lib.hid hm
  have HN := Lib.hid hn
  clear hI hX hn hm hr hV hx hy HV HVV
  go_enter Tryz.func10, Tryz.ntmps10
  go_wp2_with fail
  refine HC.out.mono ?_
  rintro e w1 ⟨rfl, hb1⟩
  have HX1 := Lib.hid (HX.out.below hb1)
  go_wp2_with fail
  refine (HCH.out _ HX1.out).mono ?_
  rintro e w2 ⟨rfl, hb2⟩
  have hB2 := hb1.trans (hb2.mono hb1.size)
  clear hb1 hb2 HCH HC HX1
  go_wp2
  go_loopw [6, 7] (fun i _ wr => ∃ k : Nat, k ≤ m ∧ i = .int .i64 k ∧ Hid (Pl.apk l xs k) ∧ Below w.heap.size w wr) (fun i _ _ => m - (intOf i).toNat)
  case atStart => exact ⟨0, Nat.zero_le _, rfl, Lib.hid (fun i hi => absurd hi (Nat.not_lt_zero _)), hB2⟩
  case round =>
    obtain ⟨k, hk, rfl, hap, hW⟩ := hrel
    obtain ⟨wo, rfl⟩ : ∃ wo, wo = wr := ⟨_, rfl⟩
    by_cases hlt : k < m
    · have hltI : (k : Int) < (m : Int) := by omega
      have hkx : k < xs.length := by rw [HM.out]; exact hlt
      obtain ⟨bx, ox, rfl, hbx, hcX⟩ := HX.out.open (by omega)
      have HCX := Lib.hid (fun W (hB : Below w.heap.size w W) i (hi : i < xs.length) => row_cell (mk := Value.int .i64) hbx hcX hB hi)
      obtain ⟨p, hp, hpn⟩ := HIX.out k hkx
      have HP := Lib.hid (Pl.bx_eq (l := l) hkx hp)
      have hpI : (p : Int) < (n : Int) := by omega
      obtain ⟨bz, oz, rfl, hbz, hcz⟩ := bts_open HI.out (by rw [HN.out]; omega)
      have HCZ := Lib.hid (fun W (hB : Below w.heap.size w W) i (hi : i < l.length) => bts_cells hbz hcz hB hi)
      have HPX := Lib.hid hp
      clear hcX hcz hp
      go_wp2
      go_loopw [7] (fun i wr => ∃ j : Nat, j ≤ k ∧ i = .int .i64 j ∧ Hid (∀ j', j' < j → Pl.apt (Pl.bx l xs k) (Pl.bx l xs j') = true) ∧ Below w.heap.size w wr) (fun i _ => k - (intOf i).toNat)
      case atStart => exact ⟨0, Nat.zero_le _, rfl, Lib.hid (fun j hj => absurd hj (Nat.not_lt_zero _)), hW⟩
      case round =>
        obtain ⟨j, hj, rfl, hapj, hW2⟩ := hrel
        obtain ⟨w2, rfl⟩ : ∃ w2, w2 = wr := ⟨_, rfl⟩
        by_cases hlt2 : j < k
        · have hltI2 : (j : Int) < (k : Int) := by omega
          have hltI3 : (j : Int) < (m : Int) := by omega
          have hjx : j < xs.length := by omega
          have q0 := fun s : Ext w2 => HCX.out s.w (hW2.trans (s.h.mono hW2.size)) k hkx
          have q1 := fun s : Ext w2 => HCX.out s.w (hW2.trans (s.h.mono hW2.size)) j hjx
          obtain ⟨q, hq, hqn⟩ := HIX.out j hjx
          have HQ := Lib.hid (Pl.bx_eq (l := l) hjx hq)
          rw [hq] at q1
          rw [HPX.out] at q0
          have hqI : (q : Int) < (n : Int) := by omega
          have r1 := HCZ.out w2 hW2 p (by rw [HN.out]; exact hpn)
          have r2 := HCZ.out w2 hW2 q (by rw [HN.out]; exact hqn)
          have hbz2 : bz < w2.heap.size := Nat.lt_of_lt_of_le hbz hW2.size
          have HNO : Hid (Pl.apt (Pl.at' l p) (Pl.at' l q) = false → V = false) := Lib.hid (fun h => HV2.out k j hlt hlt2 (by rw [HP.out, HQ.out]; exact h))
          have HYES : Hid (Pl.apt (Pl.at' l p) (Pl.at' l q) = true → ∀ j', j' < j + 1 → Pl.apt (Pl.bx l xs k) (Pl.bx l xs j') = true) := Lib.hid (fun h j' hj' => by
            rcases Nat.lt_succ_iff_lt_or_eq.1 hj' with h' | rfl
            · exact hapj.out j' h'
            · rw [HP.out, HQ.out]; exact h)
          clear hq hapj
          generalize Pl.at' l p = E at *
          generalize Pl.at' l q = F at *
          obtain ⟨x1, h1⟩ : ∃ x, Pl.apt E F = x := ⟨_, rfl⟩
          rw [h1] at HNO HYES
          have H1 := Lib.hid h1
          have y10 := fun s : Ext w2 => (bt_cells (ext_range s r1 hbz2)).1
          have y11 := fun s : Ext w2 => (bt_cells (ext_range s r1 hbz2)).2.1
          have y12 := fun s : Ext w2 => (bt_cells (ext_range s r1 hbz2)).2.2.1
          have y13 := fun s : Ext w2 => (bt_cells (ext_range s r1 hbz2)).2.2.2.1
          have y14 := fun s : Ext w2 => (bt_cells (ext_range s r1 hbz2)).2.2.2.2.1
          have y15 := fun s : Ext w2 => (bt_cells (ext_range s r1 hbz2)).2.2.2.2.2.1
          have y16 := fun s : Ext w2 => (bt_cells (ext_range s r1 hbz2)).2.2.2.2.2.2
          have y20 := fun s : Ext w2 => (bt_cells (ext_range s r2 hbz2)).1
          have y21 := fun s : Ext w2 => (bt_cells (ext_range s r2 hbz2)).2.1
          have y22 := fun s : Ext w2 => (bt_cells (ext_range s r2 hbz2)).2.2.1
          have y23 := fun s : Ext w2 => (bt_cells (ext_range s r2 hbz2)).2.2.2.1
          have y24 := fun s : Ext w2 => (bt_cells (ext_range s r2 hbz2)).2.2.2.2.1
          have y25 := fun s : Ext w2 => (bt_cells (ext_range s r2 hbz2)).2.2.2.2.2.1
          have y26 := fun s : Ext w2 => (bt_cells (ext_range s r2 hbz2)).2.2.2.2.2.2
          clear h1 r1 r2
          cases x1
          · have HF : Hid (V = false) := Lib.hid (HNO.out rfl)
            go_wp2
            refine wp_region_ext (by kernel_rfl) (by kernel_rfl) ?_
            repeat (go_big_quiet_step ((go_at_call 22; refine calls_ext (rapart_b _ _ _ H1.out _))))
            refine wpQuiet_nil ?_
            rintro _ ⟨s, rfl⟩
            go_wp2
            go_ret2
            exact ⟨by rw [HF.out, HR.out]; rfl, hW2.trans (s.h.mono hW2.size)⟩
          · have HF := Lib.hid (HYES.out rfl)
            go_wp2
            refine wp_region_ext (by kernel_rfl) (by kernel_rfl) ?_
            repeat (go_big_quiet_step ((go_at_call 22; refine calls_ext (rapart_b _ _ _ H1.out _))))
            refine wpQuiet_nil ?_
            rintro _ ⟨s, rfl⟩
            go_wp2
            go_roundw
            case rel => exact ⟨j + 1, by omega, by go_num, HF, hW2.trans (s.h.mono hW2.size)⟩
            case measure => simp [intOf]; omega
        · obtain rfl : j = k := by omega
          have HA : Hid (Pl.apk l xs (j + 1)) := Lib.hid (fun i hi j' hj' => by
            rcases Nat.lt_succ_iff_lt_or_eq.1 hi with h | rfl
            · exact hap.out i h j' hj'
            · exact hapj.out j' hj')
          go_wp2
          go_roundw
          case rel => exact ⟨j + 1, by omega, by go_num, HA, hW2⟩
          case measure => simp [intOf]; omega
    · obtain rfl : k = m := by omega
      have HT : Hid (V = true) := Lib.hid (HV1.out hap.out)
      go_wp2
      go_ret2
      exact ⟨by rw [HT.out, HR.out]; rfl, hW⟩

end Go.Proofs.YtlfbfdhdkccaeaaGreat

