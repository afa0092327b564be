/- adds of the sanity checks: balances add up by the differences. -/
import Derived.Test.YtalfffkcmddakaaW2
import Derived.Test.YtalfffkcmddakaaS5
namespace Go.Proofs.Ytalfffkcmddakaa
open Go.RowKit Go.Shelf

theorem Pl.tk_zero (d : Int) (L : List Pl.Df) : Pl.tk d (L.take 0) = 0 := rfl
theorem Pl.tt_zero (d : Int) (L : List Pl.Df) : Pl.tt d (L.take 0) = 0 := rfl
theorem Pl.agr_vb {a b : List Pl.En} (ha : Pl.Vb a) (hb : Pl.Vb b) : Pl.Vb (Pl.agr a b) where
  len := Nat.le_trans (Pl.agr_len a b) ha.len
  each := fun e he => ha.each e ((Pl.agr_mem ha hb).1 he).1
  dif := Pl.agr_nodup ha
theorem Pl.zv_c {e : Pl.En} (h : e = Pl.z0 ∨ Pl.vE e = true) : 0 ≤ e.c ∧ e.c ≤ 1000000000 := by
  rcases h with rfl | h
  · decide
  · exact Pl.ve_c h
theorem Pl.zv_ef {e : Pl.En} (h : e = Pl.z0 ∨ Pl.vE e = true) : -1000000000 ≤ Pl.ef e ∧ Pl.ef e ≤ 1000000000 := by
  rcases h with rfl | h
  · decide
  · exact Pl.ef_bound h
set_option maxRecDepth 100000 in
set_option maxHeartbeats 16000000 in
theorem adds_b (A1 A2 A3 : Option Addr) (a b : List Pl.En) (n1 c1 n2 c2 n3 c3 : Nat) (day : Int) (hn1 : a.length = n1) (hn2 : b.length = n2) (hn3 : (Pl.dif a b).length = n3) (ha : Pl.Vb a) (hb : Pl.Vb b) (hd : 0 ≤ day ∧ day ≤ 100000) (hx1 : A1 = none → c1 = 0) (hx2 : A2 = none → c2 = 0) (w : World) (hI1 : Rows enL 4 w A1 a) (hI2 : Rows enL 4 w A2 b) (hI3 : Rows dfL 9 w A3 (Pl.dif a b)) :
    Calls Try.prog 44 #[.slice A1 n1 c1, .slice A2 n2 c2, .slice A3 n3 c3, .int .i64 day] w fun e w' => e = .returned (.bool true) ∧ Below w.heap.size w w' := by
  have hl1 : n1 ≤ 200 := by rw [← hn1]; exact ha.len
  have hl2 : n2 ≤ 200 := by rw [← hn2]; exact hb.len
  have hl3 : n3 ≤ 400 := by have := Pl.dif_len a b; omega
  have hva := Pl.vb_iff.2 ha
  have hvb := Pl.vb_iff.2 hb
  have hco : Pl.coE a b = 0 := Pl.co_ok.2 ⟨hva, hvb⟩
  have hag : Pl.agV a b = Pl.agr a b := by unfold Pl.agV; rw [if_pos hco]
  have ba : ∀ l, Pl.Vb l → Pl.baE l day = 0 ∧ Pl.baV l day = Pl.bal day l := fun l h => by
    have h1 : Pl.baE l day = 0 := by unfold Pl.baE; rw [Pl.vb_iff.2 h, Pl.inB_true.2 hd]; rfl
    exact ⟨h1, by unfold Pl.baV; rw [if_pos h1]⟩
  obtain ⟨G, hG⟩ : ∃ G, Pl.agr a b = G := ⟨_, rfl⟩
  obtain ⟨g, hg⟩ : ∃ g, G.length = g := ⟨_, rfl⟩
  have hGv : Pl.Vb G := by rw [← hG]; exact Pl.agr_vb ha hb
  have H1 := Lib.hid (agreed2_b A1 A2 a b n1 c1 n2 c2 hn1 hn2 (by unfold maxLen; omega) (by unfold maxLen; omega) hx1 hx2 w hI1 hI2)
  rw [hag, hco, hG, hg] at H1
  have HGL := Lib.hid hg
  have H2 := Lib.hid (fun W (h : Below w.heap.size w W) => balance2_b A1 a c1 n1 hn1 (by unfold maxLen; omega) day W (hI1.below h))
  have H3 := Lib.hid (fun W (h : Below w.heap.size w W) => balance2_b A2 b c2 n2 hn2 (by unfold maxLen; omega) day W (hI2.below h))
  have H4 := Lib.hid (fun A c W (h : Rows enL 4 W A G) => balance2_b A G c g hg (by have := hGv.len; unfold maxLen; omega) day W h)
  rw [(ba a ha).1, (ba a ha).2] at H2
  rw [(ba b hb).1, (ba b hb).2] at H3
  rw [(ba G hGv).1, (ba G hGv).2] at H4
  have bb : ∀ l, Pl.Vb l → -200000000000 ≤ Pl.bal day l ∧ Pl.bal day l ≤ 200000000000 := fun l h => by
    have h1 := Pl.bal_bound day h.each l.length (Nat.le_refl _)
    rw [List.take_length] at h1
    have := h.len
    omega
  have hba := bb a ha
  have hbb := bb b hb
  have hea := Pl.adds_mine ha hb day
  have heb := Pl.adds_theirs ha hb day
  rw [hG] at hea heb
  have HIM : Hid (∀ d, d ∈ Pl.dif a b → (d.m = Pl.z0 ∨ Pl.vE d.m = true) ∧ (d.t = Pl.z0 ∨ Pl.vE d.t = true)) := Lib.hid (fun d h => ⟨(Pl.dif_all ha hb h).2.2.1, (Pl.dif_all ha hb h).2.2.2.1⟩)
  generalize Pl.dif a b = D at *
  obtain ⟨P, hP⟩ : ∃ P, Pl.bal day a = P := ⟨_, rfl⟩
  obtain ⟨Q, hQ⟩ : ∃ Q, Pl.bal day b = Q := ⟨_, rfl⟩
  obtain ⟨Z, hZ⟩ : ∃ Z, Pl.bal day G = Z := ⟨_, rfl⟩
  rw [hP] at H2 hba hea
  rw [hQ] at H3 hbb heb
  rw [hZ] at H4 hea heb
  have HTK : Hid (∀ k, k ≤ n3 → -1000000000000 ≤ P - Pl.tk day (D.take k) ∧ P - Pl.tk day (D.take k) ≤ 1000000000000) := Lib.hid (fun k hk => by
    have := Pl.tk_bound day (fun x hx => (HIM.out x hx).1) k (by omega)
    omega)
  have HTT : Hid (∀ k, k ≤ n3 → -1000000000000 ≤ Q - Pl.tt day (D.take k) ∧ Q - Pl.tt day (D.take k) ≤ 1000000000000) := Lib.hid (fun k hk => by
    have := Pl.tt_bound day (fun x hx => (HIM.out x hx).2) k (by omega)
    omega)
  have HEA : Hid (P - Pl.tk day D = Z) := Lib.hid (by omega)
  have HEB : Hid (Q - Pl.tt day D = Z) := Lib.hid (by omega)
  have HP0 : Hid (P - Pl.tk day (D.take 0) = P) := Lib.hid (by rw [Pl.tk_zero]; omega)
  have HQ0 : Hid (Q - Pl.tt day (D.take 0) = Q) := Lib.hid (by rw [Pl.tt_zero]; omega)
  have HI3 := Lib.hid hI3
  have HN3 := Lib.hid hn3
  clear hn1 hn2 hn3 ha hb hd hx1 hx2 hI1 hI2 hI3 hl1 hl2 hva hvb hco hag ba bb hG hg hGv hba hbb hea heb hP hQ hZ
  go_enter Try.func44, Try.ntmps44
  go_wp2_with fail
  refine H1.out.mono ?_
  rintro e w1 ⟨v1, rfl, hO1, hb1⟩
  obtain ⟨Ag, cg, rfl, hRg, _, _, _⟩ := rows_own2 HGL.out hO1
  have HB1 := Lib.hid hb1
  have HRg := Lib.hid hRg
  clear hO1 hb1 hRg H1
  go_wp2_with fail
  refine (H2.out _ HB1.out).mono ?_
  rintro e w2 ⟨rfl, hb2⟩
  have HB2 := Lib.hid (HB1.out.trans (hb2.mono HB1.out.size))
  have HRg2 := Lib.hid (HRg.out.below hb2)
  clear hb2 HRg H2
  go_wp2_with fail
  refine (H3.out _ HB2.out).mono ?_
  rintro e w3 ⟨rfl, hb3⟩
  have HB3 := Lib.hid (HB2.out.trans (hb3.mono HB2.out.size))
  have HRg3 := Lib.hid (HRg2.out.below hb3)
  clear hb3 HRg2 H3
  go_wp2_with fail
  refine (H4.out _ _ _ HRg3.out).mono ?_
  rintro e w4 ⟨rfl, hb4⟩
  have HB4 := Lib.hid (HB3.out.trans (hb4.mono HB3.out.size))
  clear hb4 HRg3 H4
  go_wp2
  go_loopw [11, 13, 59] (fun x y i wr => ∃ k : Nat, k ≤ n3 ∧ i = .int .i64 k ∧ x = .int .i64 (P - Pl.tk day (D.take k)) ∧ y = .int .i64 (Q - Pl.tt day (D.take k)) ∧ Hid (Below w.heap.size w wr)) (fun _ _ i _ => n3 - (intOf i).toNat)
  case atStart => exact ⟨0, Nat.zero_le _, rfl, by rw [HP0.out], by rw [HQ0.out], HB4⟩
  case round =>
    clear HP0 HQ0 HB1 HB2 HB3 HB4
    obtain ⟨k, hk, rfl, rfl, rfl, HW⟩ := hrel
    obtain ⟨wo, rfl⟩ : ∃ wo, wo = wr := ⟨_, rfl⟩
    by_cases hlt : k < n3
    · have hltI : (k : Int) < (n3 : Int) := by omega
      have hkx : k < D.length := by rw [HN3.out]; exact hlt
      obtain ⟨bx, ox, rfl, hbx, hcx⟩ := HI3.out.open (by omega)
      have hr := row_at hbx hcx HW.out hkx
      have ht1 := Pl.tk_take (d := day) hkx
      have ht2 := Pl.tt_take (d := day) hkx
      have hzv := HIM.out _ (List.getElem_mem hkx)
      have hx := HTK.out k hk
      have hy := HTT.out k hk
      clear hcx
      generalize D[k] = d at *
      obtain ⟨X, hX⟩ : ∃ X, P - Pl.tk day (D.take k) = X := ⟨_, rfl⟩
      obtain ⟨Y, hY⟩ : ∃ Y, Q - Pl.tt day (D.take k) = Y := ⟨_, rfl⟩
      have HNX : Hid (P - Pl.tk day (D.take (k + 1)) = X - Pl.gd day d.m) := Lib.hid (by rw [ht1]; omega)
      have HNY : Hid (Q - Pl.tt day (D.take (k + 1)) = Y - Pl.gd day d.t) := Lib.hid (by rw [ht2]; omega)
      rw [hX] at hx ⊢
      rw [hY] at hy ⊢
      obtain ⟨E, hE⟩ : ∃ E, Pl.ef d.m = E := ⟨_, rfl⟩
      obtain ⟨F, hF⟩ : ∃ F, Pl.ef d.t = F := ⟨_, rfl⟩
      have h1 := Pl.zv_ef hzv.1
      have h2 := Pl.zv_ef hzv.2
      rw [hE] at h1
      rw [hF] at h2
      have kX : IntKind.i64.wrap (X - E) = X - E := IntWalk.i64_in _ (by omega)
      have kY : IntKind.i64.wrap (Y - F) = Y - F := IntWalk.i64_in _ (by omega)
      have HC1 := Lib.hid (Pl.zv_c hzv.1)
      have HC2 := Lib.hid (Pl.zv_c hzv.2)
      have HEM := Lib.hid (fun W => deffect_b d.m HC1.out E hE W)
      have HET := Lib.hid (fun W => deffect_b d.t HC2.out F hF W)
      have HG1 : Hid (d.m.d ≤ day → Pl.gd day d.m = E) := Lib.hid (fun h => by unfold Pl.gd; rw [if_pos h, hE])
      have HG2 : Hid (d.t.d ≤ day → Pl.gd day d.t = F) := Lib.hid (fun h => by unfold Pl.gd; rw [if_pos h, hF])
      have HG3 : Hid (¬ d.m.d ≤ day → Pl.gd day d.m = 0) := Lib.hid (fun h => by unfold Pl.gd; rw [if_neg h])
      have HG4 : Hid (¬ d.t.d ≤ day → Pl.gd day d.t = 0) := Lib.hid (fun h => by unfold Pl.gd; rw [if_neg h])
      clear ht1 ht2 hX hY h1 h2 hx hy hzv hE hF
      have bz := Blk.new wo 61 zdf
      have HBz := Lib.hid ((Below.refl wo.heap.size wo).alloc (Nat.le_refl _) (.cells zdf 61))
      clear hkx
      by_cases hm : d.m.d ≤ day
      · by_cases ht : d.t.d ≤ day
        · skip
          have HXN : Hid (P - Pl.tk day (D.take (k + 1)) = X - E) := Lib.hid (by rw [HNX.out, HG1.out hm])
          have HYN : Hid (Q - Pl.tt day (D.take (k + 1)) = Y - F) := Lib.hid (by rw [HNY.out, HG2.out ht])
          have dm : decide (d.m.d ≤ day) = true := by simp [hm]
          have dt : decide (d.t.d ≤ day) = true := by simp [ht]
          clear HNX HNY HG1 HG2 HG3 HG4
          go_wp2_with (first
            | (have h9 := bz
               refine st_df (k := d) bz rfl rfl _ _ rfl rfl rfl ?_
               clear h9
               intro w9 bY hO9
               have hb9 : Below wo.heap.size wo w9 := HBz.out.trans (hO9.below (Nat.le_refl _))
               have HW9 := Lib.hid (HW.out.trans (hb9.mono HW.out.size))
               have q3 : w9.cell? ⟨wo.heap.size, 3, none⟩ = some (.int .i64 d.m.d) := bY.cell 3
               have q7 : w9.cell? ⟨wo.heap.size, 7, none⟩ = some (.int .i64 d.t.d) := bY.cell 7
               have rm := df_m bY.range
               have rt := df_t bY.range
               clear bz hO9 hb9 hr)
            | (have h9 := hr
               refine ldm_df hr rfl _ rfl rfl ?_
               clear h9)
            | (have h9 := rm
               refine ldm_en (s := d.m) rm rfl _ rfl rfl ?_
               clear h9)
            | (have h9 := rt
               refine ldm_en (s := d.t) rt rfl _ rfl rfl ?_
               clear h9))
          refine (HEM.out w9).mono ?_
          rintro e w10 ⟨rfl, hb10⟩
          have HW10 := Lib.hid (HW9.out.trans (hb10.mono HW9.out.size))
          have bY10 := bY.below hb10 bY.lt
          have q7' : w10.cell? ⟨wo.heap.size, 7, none⟩ = some (.int .i64 d.t.d) := bY10.cell 7
          have rt' := df_t bY10.range
          clear hb10 q3 q7 rm rt bY
          go_wp2_with (have h9 := rt'
                       refine ldm_en (s := d.t) rt' rfl _ rfl rfl ?_
                       clear h9)
          refine (HET.out w10).mono ?_
          rintro e w11 ⟨rfl, hb11⟩
          have HW11 := Lib.hid (HW10.out.trans (hb11.mono HW10.out.size))
          clear hb11
          go_wp2
          go_roundw
          case rel => exact ⟨k + 1, by omega, by go_num, by rw [HXN.out], by rw [HYN.out], HW11⟩
          case measure => simp [intOf]; omega
        · skip
          have HXN : Hid (P - Pl.tk day (D.take (k + 1)) = X - E) := Lib.hid (by rw [HNX.out, HG1.out hm])
          have HYN : Hid (Q - Pl.tt day (D.take (k + 1)) = Y) := Lib.hid (by rw [HNY.out, HG4.out ht]; omega)
          have dm : decide (d.m.d ≤ day) = true := by simp [hm]
          have dt : decide (d.t.d ≤ day) = false := by simp [ht]
          clear HNX HNY HG1 HG2 HG3 HG4
          go_wp2_with (first
            | (have h9 := bz
               refine st_df (k := d) bz rfl rfl _ _ rfl rfl rfl ?_
               clear h9
               intro w9 bY hO9
               have hb9 : Below wo.heap.size wo w9 := HBz.out.trans (hO9.below (Nat.le_refl _))
               have HW9 := Lib.hid (HW.out.trans (hb9.mono HW.out.size))
               have q3 : w9.cell? ⟨wo.heap.size, 3, none⟩ = some (.int .i64 d.m.d) := bY.cell 3
               have q7 : w9.cell? ⟨wo.heap.size, 7, none⟩ = some (.int .i64 d.t.d) := bY.cell 7
               have rm := df_m bY.range
               have rt := df_t bY.range
               clear bz hO9 hb9 hr)
            | (have h9 := hr
               refine ldm_df hr rfl _ rfl rfl ?_
               clear h9)
            | (have h9 := rm
               refine ldm_en (s := d.m) rm rfl _ rfl rfl ?_
               clear h9)
            | (have h9 := rt
               refine ldm_en (s := d.t) rt rfl _ rfl rfl ?_
               clear h9))
          refine (HEM.out w9).mono ?_
          rintro e w10 ⟨rfl, hb10⟩
          have HW10 := Lib.hid (HW9.out.trans (hb10.mono HW9.out.size))
          have bY10 := bY.below hb10 bY.lt
          have q7' : w10.cell? ⟨wo.heap.size, 7, none⟩ = some (.int .i64 d.t.d) := bY10.cell 7
          have rt' := df_t bY10.range
          clear hb10 q3 q7 rm rt bY
          go_wp2_with (have h9 := rt'
                       refine ldm_en (s := d.t) rt' rfl _ rfl rfl ?_
                       clear h9)
          go_roundw
          case rel => exact ⟨k + 1, by omega, by go_num, by rw [HXN.out], by rw [HYN.out], HW10⟩
          case measure => simp [intOf]; omega
      · by_cases ht : d.t.d ≤ day
        · skip
          have HXN : Hid (P - Pl.tk day (D.take (k + 1)) = X) := Lib.hid (by rw [HNX.out, HG3.out hm]; omega)
          have HYN : Hid (Q - Pl.tt day (D.take (k + 1)) = Y - F) := Lib.hid (by rw [HNY.out, HG2.out ht])
          have dm : decide (d.m.d ≤ day) = false := by simp [hm]
          have dt : decide (d.t.d ≤ day) = true := by simp [ht]
          clear HNX HNY HG1 HG2 HG3 HG4
          go_wp2_with (first
            | (have h9 := bz
               refine st_df (k := d) bz rfl rfl _ _ rfl rfl rfl ?_
               clear h9
               intro w9 bY hO9
               have hb9 : Below wo.heap.size wo w9 := HBz.out.trans (hO9.below (Nat.le_refl _))
               have HW9 := Lib.hid (HW.out.trans (hb9.mono HW.out.size))
               have q3 : w9.cell? ⟨wo.heap.size, 3, none⟩ = some (.int .i64 d.m.d) := bY.cell 3
               have q7 : w9.cell? ⟨wo.heap.size, 7, none⟩ = some (.int .i64 d.t.d) := bY.cell 7
               have rm := df_m bY.range
               have rt := df_t bY.range
               clear bz hO9 hb9 hr)
            | (have h9 := hr
               refine ldm_df hr rfl _ rfl rfl ?_
               clear h9)
            | (have h9 := rm
               refine ldm_en (s := d.m) rm rfl _ rfl rfl ?_
               clear h9)
            | (have h9 := rt
               refine ldm_en (s := d.t) rt rfl _ rfl rfl ?_
               clear h9))
          refine (HET.out w9).mono ?_
          rintro e w11 ⟨rfl, hb11⟩
          have HW11 := Lib.hid (HW9.out.trans (hb11.mono HW9.out.size))
          clear hb11
          go_wp2
          go_roundw
          case rel => exact ⟨k + 1, by omega, by go_num, by rw [HXN.out], by rw [HYN.out], HW11⟩
          case measure => simp [intOf]; omega
        · skip
          have HXN : Hid (P - Pl.tk day (D.take (k + 1)) = X) := Lib.hid (by rw [HNX.out, HG3.out hm]; omega)
          have HYN : Hid (Q - Pl.tt day (D.take (k + 1)) = Y) := Lib.hid (by rw [HNY.out, HG4.out ht]; omega)
          have dm : decide (d.m.d ≤ day) = false := by simp [hm]
          have dt : decide (d.t.d ≤ day) = false := by simp [ht]
          clear HNX HNY HG1 HG2 HG3 HG4
          go_wp2_with (first
            | (have h9 := bz
               refine st_df (k := d) bz rfl rfl _ _ rfl rfl rfl ?_
               clear h9
               intro w9 bY hO9
               have hb9 : Below wo.heap.size wo w9 := HBz.out.trans (hO9.below (Nat.le_refl _))
               have HW9 := Lib.hid (HW.out.trans (hb9.mono HW.out.size))
               have q3 : w9.cell? ⟨wo.heap.size, 3, none⟩ = some (.int .i64 d.m.d) := bY.cell 3
               have q7 : w9.cell? ⟨wo.heap.size, 7, none⟩ = some (.int .i64 d.t.d) := bY.cell 7
               have rm := df_m bY.range
               have rt := df_t bY.range
               clear bz hO9 hb9 hr)
            | (have h9 := hr
               refine ldm_df hr rfl _ rfl rfl ?_
               clear h9)
            | (have h9 := rm
               refine ldm_en (s := d.m) rm rfl _ rfl rfl ?_
               clear h9)
            | (have h9 := rt
               refine ldm_en (s := d.t) rt rfl _ rfl rfl ?_
               clear h9))
          go_roundw
          case rel => exact ⟨k + 1, by omega, by go_num, by rw [HXN.out], by rw [HYN.out], HW9⟩
          case measure => simp [intOf]; omega
    · obtain rfl : k = n3 := by omega
      rw [List.take_of_length_le (by rw [HN3.out]; exact Nat.le_refl _), HEA.out, HEB.out]
      have hZZ : (Z == Z) = true := by simp
      go_wp2
      go_ret
      exact ⟨rfl, HW.out⟩
end Go.Proofs.Ytalfffkcmddakaa
