/- BarrelMore. -/
import Derived.Test.YtlfbfdhdkccaeaaN1
import Derived.Test.YtlfbfdhdkccaeaaF3
import Derived.Test.YtlfbfdhdkccaeaaOpen
import Derived.Test.YtlfbfdhdkccaeaaP10
namespace Go.Proofs.Ytlfbfdhdkccaeaa
open Go.RowKit Go.Shelf

abbrev btL (t : Pl.Bt) : List Value := (btA t).toList
theorem btL_one (t : Pl.Bt) : ∀ v ∈ btL t, v.oneCell' = true := encBt.one t
theorem info25' : (Try.prog.info? 25).map (fun i => (i.zero, i.size, i.bytes)) = some (some (.agg #[.int .i64 0, .int .i64 0, .int .i64 0, .int .i64 0, .int .i64 0, .int .i64 0, .int .i64 0]), 7, 56) := by kernel_rfl
theorem mod_bd {a : Int} {n m : Nat} (hm : (m : Int) = a % (n : Int)) (hn : 0 < n) : m < n := by
  have h1 := Int.emod_lt_of_pos a (show (0 : Int) < (n : Int) by omega)
  omega

set_option maxRecDepth 100000 in
set_option maxHeartbeats 8000000 in
theorem law_more (A : Option Addr) (l : List Pl.Bt) (c : Nat) (x : Pl.Bt) (t : Nat) (ht : t ≤ 255) (w : World) (hI : Bts w A l) :
    Calls Try.prog 8 #[.slice A l.length c, .agg (btA x), .int .u8 t] w fun e w' => e = .returned (.bool true) ∧ Below w.heap.size w w' := by
  have hB := (Below.refl w.heap.size w).alloc (Nat.le_refl _) (.cells (btA x) 25)
  have bX := Blk.new w 25 (btA x)
  have HI := Lib.hid (hI.below hB)
  have HIW := Lib.hid hI
  have HS := Lib.hid sane_any
  have HVL := Lib.hid (fun (w' : World) (hI : Bts w' A l) => rvalid_any A l c w' hI)
  have HF := Lib.hid (fun (w' : World) hI => Fewest_any A l c _ rfl w' hI)
  obtain ⟨n, hn⟩ : ∃ n, l.length = n := ⟨_, rfl⟩
  have HN := Lib.hid hn
  rw [hn] at HVL HF ⊢
  clear hI hn
  by_cases hw : (39 : Int) < (n : Int)
  · have HW := Lib.hid (wide_b A n c 39 true (by simp [hw]))
    clear hw
    go_enter Try.func8, Try.ntmps8
    go_wp2_with fail
    refine (HW.out _).mono ?_
    rintro e w1 ⟨rfl, rfl⟩
    go_wp2_with fail
    refine (HS.out _).mono ?_
    rintro e w2 ⟨rfl, hb⟩
    go_wp2
    go_ret
    exact ⟨rfl, hB.trans (hb.mono hB.size)⟩
  have HW := Lib.hid (wide_b A n c 39 false (by simp [hw]))
  obtain ⟨x1, hx1⟩ : ∃ b, Pl.vs l = b := ⟨_, rfl⟩
  rw [hx1] at HVL
  cases x1
  · clear hx1 hw
    go_enter Try.func8, Try.ntmps8
    go_wp2_with fail
    refine (HW.out _).mono ?_
    rintro e w1 ⟨rfl, rfl⟩
    go_wp2_with fail
    refine (HVL.out _ HI.out).mono ?_
    rintro e w2 ⟨rfl, hb⟩
    have hB2 := hB.trans (hb.mono hB.size)
    go_wp2_with fail
    refine (HS.out _).mono ?_
    rintro e w3 ⟨rfl, hb3⟩
    go_wp2
    go_ret
    exact ⟨rfl, hB2.trans (hb3.mono hB2.size)⟩
  have hn4 : n ≤ 39 := by omega
  have HE : Hid (Pl.E l = 0) := Lib.hid (Pl.E_ok hx1)
  rw [HE.out] at HF
  have HT := Lib.hid (Pl.nr_trn hx1 t)
  have HP := Lib.hid (fun (h : Pl.vs (Pl.trn l t ++ [x]) = true) => Pl.nr_plus hx1 t x h)
  have HTL : Hid ((Pl.trn l t).length = n) := Lib.hid (by rw [Pl.trn_len, HN.out])
  have HTV : Hid (Pl.E (Pl.trn l t) = 0) := Lib.hid (Pl.E_ok (Pl.vs_trn (Pl.ok_of hx1) t))
  have HTR : Hid (Pl.trn l t = Pl.trk l t n) := Lib.hid (by unfold Pl.trn; rw [HN.out])
  have HKS := Lib.hid (fun k => Pl.trk_succ l t k)
  have HGT : Hid (∀ k, k < n → Pl.gt l.length t k < n) := Lib.hid (fun k hk => by have := Pl.gt_lt (n := l.length) (t := t) (i := k) (by rw [HN.out]; exact hk); rw [HN.out] at this ⊢; exact this)
  have HGE : Hid (∀ k, Pl.gt l.length t k = n - 1 - (k + t) % n) := Lib.hid (fun k => by unfold Pl.gt; rw [HN.out])
  have HTW := Lib.hid (fun k => Pl.tw_succ l x k)
  have HTW0 : Hid (Pl.tw l x 0 = false) := Lib.hid rfl
  rw [HN.out] at HP
  obtain ⟨r, hr⟩ : ∃ r, (Pl.Rs l).length = r := ⟨_, rfl⟩
  have hr40 : r ≤ 40 := by
    rw [← hr, Pl.Rs_len hx1]
    have := Pl.nr_le (Pl.ok_of hx1)
    have := HN.out
    omega
  rw [hr] at HF HT HP
  clear hx1 hr hw
  obtain ⟨i0, hi, hz0, hz1, hz2⟩ := info_parts info25'
  go_enter Try.func8, Try.ntmps8
  go_wp2_with fail
  refine (HW.out _).mono ?_
  rintro e w1 ⟨rfl, rfl⟩
  go_wp2_with fail
  refine (HVL.out _ HI.out).mono ?_
  rintro e w2 ⟨rfl, hb2⟩
  have hB2 := hB.trans (hb2.mono hB.size)
  have HI2 := Lib.hid (HI.out.below hb2)
  have bX2 := bX.below hb2 bX.lt
  clear hb2 hB bX HI
  go_wp2_with fail
  refine (HF.out _ HI2.out).mono ?_
  rintro e w3 ⟨rfl, hb3⟩
  have hB3 := hB2.trans (hb3.mono hB2.size)
  have bX3 := bX2.below hb3 bX2.lt
  have HX3 := Lib.hid bX3
  have hxlt : w.heap.size < w3.heap.size := bX3.lt
  clear hb3 hB2 bX2 HI2 bX3
  go_wp2
  go_loopw [9, 10, 11] (fun v tv i wr => ∃ k : Nat, k ≤ n ∧ i = .int .i64 k ∧ tv = .bool (Pl.tw l x k) ∧ wr.ownsRow w3.heap.size 25 7 v k (flt btL (Pl.trk l t k)) ∧ Below w3.heap.size w3 wr) (fun _ _ i _ => n - (intOf i).toNat)
  case atStart => exact ⟨0, Nat.zero_le _, rfl, by rw [HTW0.out], World.ownsRow_nil _ _ _ _, Below.refl _ _⟩
  case round =>
    obtain ⟨k, hk, rfl, rfl, hown, hW⟩ := hrel
    obtain ⟨wo, rfl⟩ : ∃ wo, wo = wr := ⟨_, rfl⟩
    have hBo := hB3.trans (hW.mono hB3.size)
    by_cases hlt : k < n
    · have hltI : (k : Int) < (n : Int) := by omega
      obtain ⟨bz, oz, rfl, hbz, hcz⟩ := bts_open HIW.out (by rw [HN.out]; omega)
      obtain ⟨g, hg⟩ : ∃ g, Pl.gt l.length t k = g := ⟨_, rfl⟩
      have hgn : g < n := by rw [← hg]; exact HGT.out k hlt
      have hgI : (g : Int) < (n : Int) := by omega
      have hck := bts_cells hbz hcz hBo (i := g) (by rw [HN.out]; exact hgn)
      have hcq := bts_cells hbz hcz hBo (i := k) (by rw [HN.out]; exact hlt)
      have HCQ := Lib.hid (fun W (hB : Below w.heap.size w W) => bts_cells hbz hcz hB (i := k) (by rw [HN.out]; exact hlt))
      have HKSk : Hid (flt btL (Pl.trk l t (k + 1)) = flt btL (Pl.trk l t k) ++ btL (Pl.at' l g)) := Lib.hid (by rw [HKS.out, flt_append, flt_one, hg])
      have HTWk := Lib.hid (HTW.out k)
      obtain ⟨m, hm1⟩ : ∃ m : Nat, (k + t) % n = m := ⟨_, rfl⟩
      have hm : (m : Int) = ((k : Int) + (t : Int)) % (n : Int) := by rw [← hm1]; exact Int.natCast_emod (k + t) n
      have hmn : m < n := mod_bd hm (by omega)
      have hgm : (n : Int) - 1 - (m : Int) = (g : Int) := by
        have h2 := HGE.out k
        rw [hg, hm1] at h2
        omega
      have k1 : IntKind.i64.wrap ((k : Int) + (t : Int)) = (k : Int) + (t : Int) := IntWalk.i64_in _ (by omega)
      have k2 : ((k : Int) + (t : Int)).tmod (n : Int) = (m : Int) := by rw [Int.tmod_eq_emod_of_nonneg (by omega)]; exact hm.symm
      have k3 : ((k : Int) + (t : Int)) % (n : Int) = (m : Int) := hm.symm
      have k4 : IntKind.i64.wrap ((n : Int) - 1 - (m : Int)) = (g : Int) := by rw [hgm]; exact IntWalk.i64_in _ (by omega)
      have k5 : IntKind.i64.wrap ((n : Int) - 1) = (n : Int) - 1 := IntWalk.i64_in _ (by omega)
      have k6 : ¬ (n : Int) = 0 := by omega
      have k7 : IntKind.i64.wrap (t : Int) = (t : Int) := IntWalk.i64_in _ (by omega)
      have hown2 := hown.alloc (.cells (btA (Pl.at' l g)) 25)
      have HOW := Lib.hid hown2
      have HOL := Lib.hid hown.lt
      have HE2 := Lib.hid hg
      clear hcz hg hcq hm hm1 hown hown2
      generalize Pl.at' l g = E at *
      generalize Pl.at' l k = F at *
      generalize Pl.tw l x k = tv at *
      have hszo : w3.heap.size ≤ wo.heap.size := hW.size
      go_wp2_with (first | refine ldm_bt hck rfl _ rfl rfl ?_ | (at_builtin; refine wpList_append_own _ rfl _ _ 22 rfl w3.heap.size 25 i0 _ 7 56 Try.underlying22 hi hz0 hz1 hz2 rfl (by decide) _ _ _ rfl HOW.out ⟨wo.heap.size, 0, none⟩ 1 1 (btL E) rfl rfl (new_cells' _ _ _ rfl) (btL_one E) (by unfold maxLen; omega) (by omega) (by simp; omega) ?_; intro v' w9 hown' hgrow _))
      have hW9 := (hW.alloc hW.size (.cells (btA E) 25)).grown hgrow (by simp; omega) (fun s e => (HOL.out s e).1)
      have hB9 := hB3.trans (hW9.mono hB3.size)
      have hF9 := HCQ.out w9 hB9
      have hbz9 : bz < w9.heap.size := Nat.lt_of_lt_of_le hbz hB9.size
      have hX9 := HX3.out.below hW9 hxlt
      have z1 := fun s : Ext w9 => (bt_cells (ext_range s hF9 hbz9)).2.1
      have z2 := fun s : Ext w9 => (bt_cells (ext_range s hF9 hbz9)).2.2.1
      have z3 := fun s : Ext w9 => s.cell ((hX9.cell 1).trans rfl)
      have z4 := fun s : Ext w9 => s.cell ((hX9.cell 2).trans rfl)
      have HO9 := Lib.hid hown'
      have HW9 := Lib.hid hW9
      clear hown' hgrow hck hB9 hF9 hX9 hW9 k1 k2 k3 k4 k5 k6 k7 hgm
      have hfin : ∀ (s : Ext w9) (b : Bool), Pl.tw l x (k + 1) = b → ∃ k' : Nat, k' ≤ n ∧ Value.int .i64 ((k : Int) + 1) = .int .i64 k' ∧ Value.bool b = .bool (Pl.tw l x k') ∧ s.w.ownsRow w3.heap.size 25 7 v' k' (flt btL (Pl.trk l t k')) ∧ Below w3.heap.size w3 s.w := fun s b hb => ⟨k + 1, by omega, by go_num, by rw [hb], by rw [HKSk.out]; exact own_keep HO9.out s.h, HW9.out.trans (s.h.mono HW9.out.size)⟩
      have HFIN := Lib.hid hfin
      clear hfin
      cases tv
      · by_cases hd : F.dark = x.dark
        · have hd1 : (F.dark == x.dark) = true := by simp [hd]
          by_cases hgr : F.grain = x.grain
          · have hg1 : (F.grain == x.grain) = true := by simp [hgr]
            have HB := Lib.hid (show Pl.tw l x (k + 1) = true by rw [HTWk.out]; simp [hd, hgr])
            clear hd hgr
            go_wp2
            refine wp_region_ext (by kernel_rfl) (by kernel_rfl) ?_
            repeat (go_big_quiet_step (fail))
            refine wpQuiet_nil ?_
            rintro _ ⟨s, rfl⟩
            go_wp2
            go_roundw
            case rel => exact HFIN.out s _ HB.out
            case measure => simp [intOf]; omega
          · have hg1 : (F.grain == x.grain) = false := by simp [hgr]
            have HB := Lib.hid (show Pl.tw l x (k + 1) = false by rw [HTWk.out]; simp [hgr])
            clear hd hgr
            go_wp2
            refine wp_region_ext (by kernel_rfl) (by kernel_rfl) ?_
            repeat (go_big_quiet_step (fail))
            refine wpQuiet_nil ?_
            rintro _ ⟨s, rfl⟩
            go_wp2
            go_roundw
            case rel => exact HFIN.out s _ HB.out
            case measure => simp [intOf]; omega
        · have hd1 : (F.dark == x.dark) = false := by simp [hd]
          have HB := Lib.hid (show Pl.tw l x (k + 1) = false by rw [HTWk.out]; simp [hd])
          clear hd
          go_wp2
          refine wp_region_ext (by kernel_rfl) (by kernel_rfl) ?_
          repeat (go_big_quiet_step (fail))
          refine wpQuiet_nil ?_
          rintro _ ⟨s, rfl⟩
          go_wp2
          go_roundw
          case rel => exact HFIN.out s _ HB.out
          case measure => simp [intOf]; omega
      · have HB := Lib.hid (show Pl.tw l x (k + 1) = true by rw [HTWk.out]; simp)
        go_wp2
        refine wp_region_ext (by kernel_rfl) (by kernel_rfl) ?_
        repeat (go_big_quiet_step (fail))
        refine wpQuiet_nil ?_
        rintro _ ⟨s, rfl⟩
        go_wp2
        go_roundw
        case rel => exact HFIN.out s _ HB.out
        case measure => simp [intOf]; omega
    · obtain rfl : k = n := by omega
      rw [← HTR.out] at hown
      have hownT : wo.ownsRow w3.heap.size 25 7 u9 (Pl.trn l t).length (flt btL (Pl.trn l t)) := by rw [HTL.out]; exact hown
      obtain ⟨AT, cT, hv, hrT, _⟩ := rows_of_owns encBt hownT
      rw [HTL.out] at hv
      subst hv
      have HIT := Lib.hid (bts_rows hrT)
      have HOT := Lib.hid hown
      have HXo := Lib.hid (HX3.out.below hW hxlt)
      clear hown hownT hrT
      go_wp2_with fail
      refine (Fewest_any AT (Pl.trn l t) cT k HTL.out _ HIT.out).mono ?_
      rw [HTV.out, HT.out]
      rintro e w4 ⟨rfl, hb4⟩
      have hB4 := hBo.trans (hb4.mono hBo.size)
      have hX4 := HXo.out.below hb4 HXo.out.lt
      have hr4 := hX4.range
      have hs4 : w3.heap.size ≤ w4.heap.size := Nat.le_trans hW.size hb4.size
      have HOW := Lib.hid ((own_keep HOT.out hb4).alloc (.cells (btA x) 25))
      have HOL := Lib.hid (own_keep HOT.out hb4).lt
      clear hb4
      go_wp2_with (first | refine ldm_bt hr4 rfl _ rfl rfl ?_ | (at_builtin; refine wpList_append_own _ rfl _ _ 22 rfl w3.heap.size 25 i0 _ 7 56 Try.underlying22 hi hz0 hz1 hz2 rfl (by decide) _ _ _ rfl HOW.out ⟨w4.heap.size, 0, none⟩ 1 1 (btL x) rfl rfl (new_cells' _ _ _ rfl) (btL_one x) (by unfold maxLen; omega) (by omega) (by simp; omega) ?_; intro v' w9 hown' hgrow _))
      have hB9 := (hB4.alloc hB4.size (.cells (btA x) 25)).grown hgrow (by have := hB4.size; simp; omega) (fun s e => by have := (HOL.out s e).1; omega)
      have hownN : w9.ownsRow w3.heap.size 25 7 v' (Pl.trn l t ++ [x]).length (flt btL (Pl.trn l t ++ [x])) := by rw [List.length_append, HTL.out, flt_append, flt_one]; exact hown'
      obtain ⟨AN, cN, hv, hrN, _⟩ := rows_of_owns encBt hownN
      have hlN : (Pl.trn l t ++ [x]).length = k + 1 := by rw [List.length_append, HTL.out]; rfl
      rw [hlN] at hv
      subst hv
      have HIN := Lib.hid (bts_rows hrN)
      have HLN := Lib.hid hlN
      clear hown' hgrow hownN hrN hlN hr4 hX4 hB4 HOW
      go_wp2_with fail
      refine (Fewest_any AN (Pl.trn l t ++ [x]) cN (k + 1) HLN.out _ HIN.out).mono ?_
      rintro e w10 ⟨rfl, hb10⟩
      have hB10 := hB9.trans (hb10.mono hB9.size)
      have HIN2 := Lib.hid (HIN.out.below hb10)
      have HV2 := Lib.hid (rvalid_any AN (Pl.trn l t ++ [x]) cN w10 HIN2.out)
      rw [HLN.out] at HV2
      have HLL : Hid (Pl.vs (Pl.trn l t ++ [x]) = false → (Pl.Rs (Pl.trn l t ++ [x])).length = 0 ∧ Pl.E (Pl.trn l t ++ [x]) = 60) := Lib.hid (fun h => ⟨by rw [Pl.Rs_no h]; rfl, Pl.E_no h⟩)
      have HEE : Hid (Pl.vs (Pl.trn l t ++ [x]) = true → Pl.E (Pl.trn l t ++ [x]) = 0) := Lib.hid (fun h => Pl.E_ok h)
      generalize (Pl.Rs (Pl.trn l t ++ [x])).length = q at *
      generalize Pl.E (Pl.trn l t ++ [x]) = eN at *
      generalize Pl.vs (Pl.trn l t ++ [x]) = y at *
      generalize Pl.tw l x k = tv at *
      clear hb10 hB9 HIN
      go_wp2_with fail
      refine HV2.out.mono ?_
      rintro e w11 ⟨rfl, hb11⟩
      have hB11 := hB10.trans (hb11.mono hB10.size)
      clear hb11 hB10
      cases y
      · obtain ⟨g1, g2⟩ := HLL.out rfl
        subst g1 g2
        go_wp2_with fail
        refine (HS.out _).mono ?_
        rintro e w12 ⟨rfl, hb12⟩
        go_wp2
        go_ret
        exact ⟨rfl, hB11.trans (hb12.mono hB11.size)⟩
      · have g1 := HEE.out rfl
        subst g1
        rcases HP.out rfl with h1 | ⟨h1, h2⟩
        · subst h1
          go_wp2_with fail
          refine (HS.out _).mono ?_
          rintro e w12 ⟨rfl, hb12⟩
          go_wp2
          go_ret
          exact ⟨rfl, hB11.trans (hb12.mono hB11.size)⟩
        · subst h1 h2
          have hq1 : (((r + 1 : Nat) : Int) == (r : Int)) = false := by simp; omega
          have hq2 : (((r + 1 : Nat) : Int) == (r : Int) + 1) = true := by simp
          have kq : IntKind.i64.wrap ((r : Int) + 1) = (r : Int) + 1 := IntWalk.i64_in _ (by omega)
          go_wp2_with fail
          refine (HS.out _).mono ?_
          rintro e w12 ⟨rfl, hb12⟩
          go_wp2
          go_ret
          exact ⟨rfl, hB11.trans (hb12.mono hB11.size)⟩
theorem law_more' (A : Option Addr) (l : List Pl.Bt) (c : Nat) (x : Pl.Bt) (z : Int) (hz : (Lit.int .u8 z).wf = true) (w : World) (hI : Bts w A l) :
    Calls Try.prog 8 #[.slice A l.length c, .agg (btA x), .int .u8 z] w fun e w' => e = .returned (.bool true) ∧ Below w.heap.size w w' := by
  obtain ⟨t, ht, rfl⟩ := u8_nat hz
  exact law_more A l c x t ht w hI
end Go.Proofs.Ytlfbfdhdkccaeaa
