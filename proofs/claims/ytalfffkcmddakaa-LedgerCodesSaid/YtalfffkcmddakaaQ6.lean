/- The document's sorted, Sorted, Add. -/
import Derived.Test.YtalfffkcmddakaaQ5
namespace Go.Proofs.Ytalfffkcmddakaa
open Go.RowKit Go.Shelf

set_option maxRecDepth 100000 in
set_option maxHeartbeats 8000000 in
theorem dsorted_any (A : Option Addr) (l : List Pl.En) (c n : Nat) (hn : l.length = n) (hm : n ≤ 1000) (w : World) (hI : Rows enL 4 w A l) :
    Calls Try.prog 49 #[.slice A n c] w fun e w' => ∃ v, e = .returned v ∧ OwnE w (Pl.srt l) v w' := by
  have HI := Lib.hid hI
  have HN := Lib.hid hn
  clear hI hn
  go_enter Try.func49, Try.ntmps49
  go_wp2
  go_loopw [3, 8] (fun v i wr => ∃ k : Nat, k ≤ n ∧ i = .int .i64 k ∧ Hid (wr.ownsRow w.heap.size 24 4 v k (flt enL (Pl.srt (l.take k)))) ∧ Below w.heap.size w wr) (fun _ i _ => n - (intOf i).toNat)
  case atStart => exact ⟨0, Nat.zero_le _, rfl, Lib.hid (World.ownsRow_nil _ _ _ _), Below.refl _ _⟩
  case round =>
    obtain ⟨k, hk, rfl, HO, hW⟩ := hrel
    obtain ⟨wo, rfl⟩ : ∃ wo, wo = wr := ⟨_, rfl⟩
    by_cases hlt : k < n
    · have hltI : (k : Int) < (n : Int) := by omega
      have hkx : k < l.length := by rw [HN.out]; exact hlt
      obtain ⟨bx, ox, rfl, hbx, hcx⟩ := HI.out.open (by omega)
      have hr := row_at hbx hcx hW hkx
      have HST : Hid (Pl.srt (l.take (k + 1)) = Pl.put (Pl.srt (l.take k)) l[k]) := Lib.hid (by rw [List.take_succ_eq_append_getElem hkx, Pl.srt_snoc])
      have HL : Hid ((Pl.srt (l.take k)).length = k) := Lib.hid (by rw [Pl.srt_len, List.length_take]; omega)
      clear hcx
      generalize l[k] = y at *
      generalize Pl.srt (l.take k) = S at *
      have bz := Blk.new wo 24 (#[.int .i64 0, .int .i64 0, .int .i64 0, .int .i64 0])
      have HW := Lib.hid hW
      clear hW
      go_wp2_with (first
        | (refine st_en (k := y) bz rfl rfl _ _ rfl rfl rfl ?_
           intro w3 bY hO3
           have hb3 : Below wo.heap.size wo w3 := ((Below.refl wo.heap.size wo).alloc (Nat.le_refl _) (.cells (#[.int .i64 0, .int .i64 0, .int .i64 0, .int .i64 0]) 24)).trans (hO3.below (Nat.le_refl _))
           have HO3 := Lib.hid (own_keep HO.out hb3)
           have hr7 := bY.range
           have HW3 := Lib.hid (HW.out.trans (hb3.mono HW.out.size))
           clear bz hO3 hb3 bY)
        | refine ldm_en hr rfl _ rfl rfl ?_
        | refine ldm_en hr7 rfl _ rfl rfl ?_)
      obtain ⟨A1, c1, rfl, hR1, hl1, hc1, hn1⟩ := rows_own2 HL.out HO3.out
      refine (dput_any A1 S c1 k HL.out hl1 hc1 hn1 (by omega) y w3 hR1).mono ?_
      rintro e w4 ⟨v, rfl, hO4, hb4⟩
      have HO4 := Lib.hid (hO4.mono HW3.out.size)
      have HW4 := Lib.hid (HW3.out.trans (hb4.mono HW3.out.size))
      have HPL : Hid ((Pl.put S y).length = k + 1) := Lib.hid (by rw [Pl.put_len, HL.out])
      clear hR1 hl1 hc1 hn1 hO4 hb4 hr hr7
      go_wp2
      go_roundw
      case rel => exact ⟨k + 1, by omega, by go_num, Lib.hid (by have := HO4.out; rw [HPL.out] at this; rw [HST.out]; exact this), HW4.out⟩
      case measure => simp [intOf]; omega
    · obtain rfl : k = n := by omega
      have HO2 := HO.out
      rw [List.take_of_length_le (by rw [HN.out]; exact Nat.le_refl _)] at HO2
      have HO3 := Lib.hid HO2
      clear HO2
      go_wp2
      go_ret
      exact ⟨_, rfl, by rw [Pl.srt_len, HN.out]; exact HO3.out, hW⟩
set_option maxRecDepth 100000 in
set_option maxHeartbeats 4000000 in
theorem dsorted2_any (A : Option Addr) (l : List Pl.En) (c n : Nat) (hn : l.length = n) (hnc : n ≤ c) (hm : n ≤ maxLen) (w : World) (hI : Rows enL 4 w A l) :
    Calls Try.prog 14 #[.slice A n c] w fun e w' => ∃ v, e = .returned (.tuple #[v, .int .i64 (Pl.soE l)]) ∧ OwnE w (Pl.soV l) v w' := by
  obtain ⟨y, hy⟩ : ∃ y, Pl.vB l = y := ⟨_, rfl⟩
  have HV := Lib.hid (dvalid_any A l c n hn hnc hm y hy w hI)
  cases y
  · have H1 : Hid (Pl.soE l = 90 ∧ Pl.soV l = []) := Lib.hid (by unfold Pl.soE Pl.soV; rw [hy]; exact ⟨rfl, rfl⟩)
    rw [H1.out.1, H1.out.2]
    clear hy hI hn
    go_enter Try.func14, Try.ntmps14
    go_wp2_with fail
    refine HV.out.mono ?_
    rintro e w1 ⟨rfl, hb⟩
    go_wp2
    go_ret2
    exact ⟨_, rfl, ownE_nil hb⟩
  · have H1 : Hid (Pl.soE l = 0 ∧ Pl.soV l = Pl.srt l) := Lib.hid (by unfold Pl.soE Pl.soV; rw [hy]; exact ⟨rfl, rfl⟩)
    rw [H1.out.1, H1.out.2]
    have HVb := Lib.hid (Pl.vb_iff.1 hy)
    have HI := Lib.hid hI
    have HN := Lib.hid hn
    have HL : Hid (n ≤ 200) := Lib.hid (by rw [← hn]; exact HVb.out.len)
    clear hy hI hn
    go_enter Try.func14, Try.ntmps14
    go_wp2_with fail
    refine HV.out.mono ?_
    rintro e w1 ⟨rfl, hb⟩
    clear HV
    go_wp2_with fail
    refine (dsorted_any A l c n HN.out (by have := HL.out; omega) w1 (HI.out.below hb)).mono ?_
    rintro e w3 ⟨v, rfl, hown, hb3⟩
    have HO := Lib.hid (hown.mono hb.size)
    have hB3 := hb.trans (hb3.mono hb.size)
    clear hown hb3 hb
    go_wp2
    go_ret2
    exact ⟨_, rfl, HO.out, hB3⟩
set_option maxRecDepth 100000 in
set_option maxHeartbeats 8000000 in
theorem dadd_any (A : Option Addr) (l : List Pl.En) (c n : Nat) (hn : l.length = n) (hnc : n ≤ c) (hm : n ≤ maxLen) (x : Pl.En) (w : World) (hI : Rows enL 4 w A l) :
    Calls Try.prog 19 #[.slice A n c, .agg (enA x)] w fun e w' => ∃ v, e = .returned (.tuple #[v, .int .i64 (Pl.adE l x)]) ∧ OwnE w (Pl.adV l x) v w' := by
  obtain ⟨y, hy⟩ : ∃ y, Pl.vB l = y := ⟨_, rfl⟩
  obtain ⟨z, hz⟩ : ∃ z, Pl.vE x = z := ⟨_, rfl⟩
  have hB := (Below.refl w.heap.size w).alloc (Nat.le_refl _) (.cells (enA x) 24)
  have bX := Blk.new w 24 (enA x)
  have HV := Lib.hid (dvalid_any A l c n hn hnc hm y hy _ (hI.below hB))
  have no90 : ∀ (h : Pl.adE l x = 90), Pl.adV l x = [] := fun h => by unfold Pl.adV; rw [h]; rfl
  have no6 : ∀ (h : Pl.adE l x = 6), Pl.adV l x = [] := fun h => by unfold Pl.adV; rw [h]; rfl
  have no4 : ∀ (h : Pl.adE l x = 4), Pl.adV l x = [] := fun h => by unfold Pl.adV; rw [h]; rfl
  cases y
  case false =>
    have h1 : Pl.adE l x = 90 := by unfold Pl.adE; rw [hy]; rfl
    rw [no90 h1, h1]
    clear hy hI hn h1 no90 no6 no4 bX
    go_enter Try.func19, Try.ntmps19
    go_wp2_with fail
    refine HV.out.mono ?_
    rintro e w1 ⟨rfl, hb⟩
    have hB1 := hB.trans (hb.mono hB.size)
    go_wp2
    go_ret2
    exact ⟨_, rfl, ownE_nil hB1⟩
  case true =>
  cases z
  case false =>
    have h1 : Pl.adE l x = 90 := by unfold Pl.adE; rw [hy, hz]; rfl
    rw [no90 h1, h1]
    have HZ := Lib.hid hz
    clear hy hI hn h1 no90 no6 no4 hz
    go_enter Try.func19, Try.ntmps19
    go_wp2_with fail
    refine HV.out.mono ?_
    rintro e w1 ⟨rfl, hb⟩
    have hB1 := hB.trans (hb.mono hB.size)
    have hr := (bX.below hb bX.lt).range
    clear bX
    go_wp2_with (refine ldm_en hr rfl _ rfl rfl ?_)
    refine (dventry_b x false HZ.out w1).mono ?_
    rintro e w2 ⟨rfl, hb2⟩
    have hB2 := hB1.trans (hb2.mono hB1.size)
    go_wp2
    go_ret2
    exact ⟨_, rfl, ownE_nil hB2⟩
  case true =>
  have HZ := Lib.hid hz
  have HVb := Lib.hid (Pl.vb_iff.1 hy)
  have HI := Lib.hid hI
  have HN := Lib.hid hn
  have HM := Lib.hid hm
  have HL : Hid (n ≤ 200) := Lib.hid (by rw [← hn]; exact HVb.out.len)
  have hE : Pl.adE l x = if (Pl.fnd l (Pl.nm x)).isSome then 6 else if n = 200 then 4 else 0 := by unfold Pl.adE; rw [hy, hz, hn]; rfl
  have HE := Lib.hid hE
  have H0 := Lib.hid (fun h : Pl.adE l x = 0 => show Pl.adV l x = Pl.put (Pl.srt l) x from by unfold Pl.adV; rw [if_pos h, Pl.srt_snoc])
  have N6 := Lib.hid no6
  have N4 := Lib.hid no4
  have HBB := Lib.hid hB
  clear hy hI hn hz hE no90 no6 no4 hB hm
  generalize hER : Pl.adE l x = er at *
  generalize hVR : Pl.adV l x = vr at *
  clear hER hVR
  go_enter Try.func19, Try.ntmps19
  go_wp2_with fail
  refine HV.out.mono ?_
  rintro e w1 ⟨rfl, hb⟩
  have hB1 := HBB.out.trans (hb.mono HBB.out.size)
  have hI1 := HI.out.below hB1
  have bX1 := bX.below hb bX.lt
  have hr := bX1.range
  clear bX hb HV
  go_wp2_with (refine ldm_en hr rfl _ rfl rfl ?_)
  refine (dventry_b x true HZ.out w1).mono ?_
  rintro e w2 ⟨rfl, hb2⟩
  have hB2 := hB1.trans (hb2.mono hB1.size)
  have bX2 := bX1.below hb2 bX1.lt
  have HI2 := Lib.hid (hI1.below hb2)
  have hr2 := bX2.range
  clear hr bX1 hb2 hB1 hI1
  obtain ⟨s, hs⟩ : ∃ s, (Pl.fnd l (Pl.nm x)).isSome = s := ⟨_, rfl⟩
  obtain ⟨g0, hg0⟩ : ∃ g, (Pl.fnd l (Pl.nm x)).getD Pl.z0 = g := ⟨_, rfl⟩
  have HFD : Hid (Calls Try.prog 53 #[.slice A n c, .agg (enA x)] w2 fun e w' => e = .returned (.tuple #[.agg (enA g0), .bool s]) ∧ Below w2.heap.size w2 w') := Lib.hid (by rw [← hs, ← hg0]; exact dfind_any A l c n HN.out HM.out x w2 HI2.out)
  have HS := Lib.hid hs
  clear hs hg0
  go_wp2_with (refine ldm_en hr2 rfl _ rfl rfl ?_)
  refine HFD.out.mono ?_
  rintro e w4 ⟨rfl, hb4⟩
  have hB4 := hB2.trans (hb4.mono hB2.size)
  have bX4 := bX2.below hb4 bX2.lt
  have bz := Blk.new w4 24 (#[.int .i64 0, .int .i64 0, .int .i64 0, .int .i64 0])
  clear hr2 bX2 hb4 hB2 HFD HI2
  cases s
  case true =>
    have h6 : er = 6 := by rw [HE.out, HS.out]; rfl
    have hv6 := N6.out h6
    subst h6
    subst hv6
    clear HE N6 N4 H0
    go_wp2_with (refine st_en (k := g0) bz rfl rfl _ _ rfl rfl rfl ?_; intro w9 bX9 hO9)
    have hb9 : Below w4.heap.size w4 w9 := ((Below.refl w4.heap.size w4).alloc (Nat.le_refl _) (.cells (#[.int .i64 0, .int .i64 0, .int .i64 0, .int .i64 0]) 24)).trans (hO9.below (Nat.le_refl _))
    have hB9 := hB4.trans (hb9.mono hB4.size)
    go_ret2
    exact ⟨_, rfl, ownE_nil hB9⟩
  case false =>
  by_cases h2 : n = 200
  case pos =>
    have i2 : (200 : Int) ≤ (n : Int) := by omega
    have h4 : er = 4 := by rw [HE.out, HS.out, if_pos h2]; rfl
    have hv4 := N4.out h4
    subst h4
    subst hv4
    clear HE N6 N4 H0 h2
    go_wp2_with (refine st_en (k := g0) bz rfl rfl _ _ rfl rfl rfl ?_; intro w9 bX9 hO9)
    have hb9 : Below w4.heap.size w4 w9 := ((Below.refl w4.heap.size w4).alloc (Nat.le_refl _) (.cells (#[.int .i64 0, .int .i64 0, .int .i64 0, .int .i64 0]) 24)).trans (hO9.below (Nat.le_refl _))
    have hB9 := hB4.trans (hb9.mono hB4.size)
    go_ret2
    exact ⟨_, rfl, ownE_nil hB9⟩
  case neg =>
  have i2 : ¬ ((200 : Int) ≤ (n : Int)) := by have := HL.out; omega
  have h0 : er = 0 := by rw [HE.out, HS.out, if_neg h2]; rfl
  have hv0 := H0.out h0
  subst h0
  subst hv0
  clear HE N6 N4 H0 h2 HS
  go_wp2_with (refine st_en (k := g0) bz rfl rfl _ _ rfl rfl rfl ?_; intro w9 bX9 hO9)
  have hb9 : Below w4.heap.size w4 w9 := ((Below.refl w4.heap.size w4).alloc (Nat.le_refl _) (.cells (#[.int .i64 0, .int .i64 0, .int .i64 0, .int .i64 0]) 24)).trans (hO9.below (Nat.le_refl _))
  have HB9 := Lib.hid (hB4.trans (hb9.mono hB4.size))
  have hS := (bX4.below hb9 bX4.lt).drew
  clear bX9 hO9 hb9 hB4 bX4 bz
  refine wp_region_held (S := fun W => Blk W w.heap.size 24 (enA x)) (by kernel_rfl) ?_
  change wpAnyH _ _ _ _ _ _ _ _ (World.drew _)
  have HBW : Hid (Below w.heap.size w w9.drew) := Lib.hid HB9.out.drew
  clear HB9
  generalize w9.drew = W at *
  refine wpAnyH_take (i := 0) (v := ?_) rfl (by kernel_rfl) (by decide +kernel) (by decide +kernel) (fun _ _ _ h => h) (Or.inl ⟨by rfl, ?_⟩) hS ?_
  rotate_left
  · intro w' hS; first | (go_simp; done) | (go_simp; with_reducible rfl)
  refine wpAnyH_take (i := 2) (v := ?_) rfl (by kernel_rfl) (by decide +kernel) (by decide +kernel) (fun _ _ _ h => h) (Or.inl ⟨by rfl, ?_⟩) hS ?_
  rotate_left
  · intro w' hS; have e0 := hS.cell 0; have e1 := hS.cell 1; have e2 := hS.cell 2; have e3 := hS.cell 3; first | (go_simp; done) | (go_simp; with_reducible rfl)
  refine wpAnyH_all (rs := [1]) (by decide +kernel) (by simp) ?_
  intro i0 hi0
  obtain rfl := List.mem_singleton.1 hi0
  refine wpOp_goE rfl rfl (fun K hK => ?_)
  go_simp
  refine (dsorted_any A l c n HN.out (by have := HL.out; omega) W (HI.out.below HBW.out)).mono ?_
  rintro e w5 ⟨v, rfl, hO5, hb5⟩
  have HSL : Hid ((Pl.srt l).length = n) := Lib.hid (by rw [Pl.srt_len, HN.out])
  rw [HSL.out] at hO5
  obtain ⟨A1, c1, rfl, hR1, hl1, hc1, hn1⟩ := rows_own2 HSL.out hO5
  have HR1 := Lib.hid hR1
  have HX1 := Lib.hid (And.intro hl1 (And.intro hc1 hn1))
  have hS5 := hS.below hb5 hS.lt
  have HB5 := Lib.hid (HBW.out.trans (hb5.mono HBW.out.size))
  refine hK _ _ ⟨hS5, ?_⟩
  clear hK K hO5 hR1 hl1 hc1 hn1 hb5 hS
  refine wpAnyH_all (rs := [3]) (by decide +kernel) (by simp) ?_
  intro i0 hi0
  obtain rfl := List.mem_singleton.1 hi0
  refine wpOp_goE rfl rfl (fun K hK => ?_)
  go_simp
  refine (dput_any A1 (Pl.srt l) c1 n HSL.out HX1.out.1 HX1.out.2.1 HX1.out.2.2 (by have := HL.out; omega) x w5 HR1.out).mono ?_
  rintro e w6 ⟨v, rfl, hO6, hb6⟩
  have hS6 := hS5.below hb6 hS5.lt
  have HO6 := Lib.hid (hO6.mono HB5.out.size)
  have HB6 := Lib.hid (HB5.out.trans (hb6.mono HB5.out.size))
  refine hK _ _ ⟨hS6, ?_⟩
  clear hK K hO6 hb6 hS5
  refine wpAnyH_all (rs := [4]) (by decide +kernel) (by simp) ?_
  intro i0 hi0
  obtain rfl := List.mem_singleton.1 hi0
  refine wpOp_goE rfl rfl (fun K hK => ?_)
  go_simp
  refine hK _ _ ⟨hS6, ?_⟩
  clear hK K
  refine wpAnyH_all (rs := [5]) (by decide +kernel) (by simp) ?_
  intro i0 hi0
  obtain rfl := List.mem_singleton.1 hi0
  refine wpOp_goE rfl rfl (fun K hK => ?_)
  go_simp
  refine hK _ _ ⟨hS6, ?_⟩
  clear hK K
  refine wpAnyH_done (by decide +kernel) ?_ _
  clear hS6
  go_wp2
  go_ret2
  exact ⟨_, rfl, HO6.out, HB6.out⟩
end Go.Proofs.Ytalfffkcmddakaa
