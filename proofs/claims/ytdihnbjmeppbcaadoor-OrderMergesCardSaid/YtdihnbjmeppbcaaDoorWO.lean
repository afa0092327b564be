/- Invoice, of the program. -/
import Derived.Test.YtdihnbjmeppbcaaDoorWN
namespace Go.Proofs.YtdihnbjmeppbcaaDoor
open Go.RowKit Go.Shelf

theorem ivE_ck {l : List Pl.Pr} {r : List Pl.Rt} {f : Pl.Fm} (h : Pl.ckE l r f ≠ 0) : Pl.ivE l r f = Pl.ckE l r f := if_neg h
theorem ivE_fe {l : List Pl.Pr} {r : List Pl.Rt} {f : Pl.Fm} (h : Pl.ckE l r f = 0) : Pl.ivE l r f = Pl.fe (Pl.lnE l r f) f.ls.length := if_pos h

set_option maxRecDepth 100000 in
set_option maxHeartbeats 16000000 in
theorem Invoice_b (A : Option Addr) (l : List Pl.Pr) (c : Nat) (B : Option Addr) (r : List Pl.Rt) (j : Nat) (f : Pl.Fm) (w : World) (hP : PrsIn w A l c) (hR : RtsIn w B r j) (hF : FmIn w f) :
    Calls Tryd.prog 29 #[.slice A l.length c, .slice B r.length j, .agg (fmA f)] w fun e w' => ∃ v, e = .returned (.tuple #[v, .int .i64 (Pl.ivS l r f), .int .i64 (Pl.ivE l r f)]) ∧ IvI l r f w v w' := by
  have hB := (Below.refl w.heap.size w).alloc (Nat.le_refl _) (.cells (fmA f) 28)
  have bF := Blk.new w 28 (fmA f)
  have hK0 := checkOrder_b A l c B r j f
  have HNO : Hid (∀ E W, Pl.ivE l r f = E → E ≠ 0 → Below w.heap.size w W → Pl.ivS l r f = 0 ∧ IvI l r f w (.slice none 0 0) W) := Lib.hid (fun E W h hE hb => ⟨ivS_no (by rw [h]; exact hE), by rw [ivV_no (by rw [h]; exact hE)]; exact World.ownsRow_nil _ _ _ _, hb⟩)
  obtain ⟨K, hK⟩ : ∃ K, Pl.ckE l r f = K := ⟨_, rfl⟩
  rw [hK] at hK0
  have HK := Lib.hid (fun w' hb => hK0 w' (hP.below (W' := w') hb) (hR.below hb) (hF.below hb))
  have hr0 := bF.range
  have HFB := Lib.hid bF
  have hFl := bF.lt
  by_cases hk : K = 0
  rotate_left
  · have hE : Pl.ivE l r f = K := by rw [ivE_ck (by rw [hK]; exact hk), hK]
    have HNK := Lib.hid (fun W hb => HNO.out K W hE hk hb)
    rw [hE]
    rw [(HNK.out w (Below.refl _ _)).1]
    clear hP hR hF bF hK0 HNO hE hK
    generalize hWo : w.alloc (.cells (fmA f) 28) = W at *
    go_enter Tryd.func29, Tryd.ntmps29
    go_wp2_with (refine ldm_fm hr0 rfl _ rfl rfl ?_)
    refine (HK.out _ hB).mono ?_
    rintro e w1 ⟨rfl, hb⟩
    have hB1 := hB.trans (hb.mono hB.size)
    have HZ := Lib.hid (HNK.out w1 hB1).2
    go_wp2
    exact bodyPost_ret (v := .tuple #[.slice none 0 0, .int .i64 0, .int .i64 K]) (by simp [results, Tryd.results29, go_sem]) rfl ⟨_, rfl, HZ.out⟩
  subst hk
  have hc := Pl.ck_ok hK
  have hvf := Pl.vf_true.1 hc.f
  have hn40 := hvf.n1
  have HIE : Hid (Pl.ivE l r f = Pl.fe (Pl.lnE l r f) f.ls.length) := Lib.hid (ivE_fe hK)
  have HSUM := Lib.hid (fun k (hk : k ≤ f.ls.length) => Pl.lnV_sum hc hk)
  have HA := Lib.hid (fun k (hk : k < f.ls.length) w' hb => amount_b A l c B r j f f.ls[k] hc (List.getElem_mem hk) w' (hP.below (W' := w') hb) (hR.below hb) (hF.below hb))
  have HLE : Hid (∀ k (hk : k < f.ls.length), Pl.lnE l r f k = Pl.amE l r f f.ls[k] ∧ Pl.lnV l r f k = Pl.amV l r f f.ls[k]) := Lib.hid (fun k hk => by unfold Pl.lnE Pl.lnV; rw [ln_at hk]; exact ⟨rfl, rfl⟩)
  have HYES : Hid (∀ W W' v, Below w.heap.size w W → Pl.ivE l r f = 0 → W'.ownsRow W.heap.size 3 1 v f.ls.length (flt inL (Pl.tab (Pl.lnV l r f) f.ls.length)) → Below w.heap.size w W' → IvI l r f w v W' ∧ Pl.ivS l r f = Pl.sm (Pl.lnV l r f) f.ls.length) := Lib.hid (fun W W' v hb hE ho hb' => by
    have e1 : Pl.ivV l r f = Pl.tab (Pl.lnV l r f) f.ls.length := if_pos hE
    refine ⟨⟨?_, hb'⟩, if_pos hE⟩
    rw [e1, Pl.tab_len]
    exact own_mono ho hb.size)
  have HRW := Lib.hid (hF.rows.below hB)
  obtain ⟨i0, hi, hz0, hz01, hz2⟩ := info_parts info3
  obtain ⟨S, hS⟩ : ∃ S, Pl.ivS l r f = S := ⟨_, rfl⟩
  obtain ⟨E, hE⟩ : ∃ E, Pl.ivE l r f = E := ⟨_, rfl⟩
  rw [hS, hE]
  have HS := Lib.hid hS
  have HE := Lib.hid hE
  clear hP hR hF bF hK0 hK hc hvf hS hE
  have hfa : fmA f = #[.string f.cus, .int .i64 f.d, .string f.cur, .slice f.a f.ls.length f.k] := rfl
  generalize hWo : w.alloc (.cells (fmA f) 28) = W at *
  have hWl : w.heap.size ≤ W.heap.size := hB.size
  go_enter Tryd.func29, Tryd.ntmps29
  go_wp2_with (refine ldm_fm hr0 rfl _ rfl rfl ?_)
  refine (HK.out _ hB).mono ?_
  rintro e w1 ⟨rfl, hb⟩
  have hB1 := hB.trans (hb.mono hB.size)
  have bF1 := HFB.out.below hb hFl
  have f3 := bF1.cell 3
  have HF1 := Lib.hid bF1
  have hFl1 := bF1.lt
  have HRW1 := Lib.hid (HRW.out.below hb)
  clear hb hr0 hB HK HFB hFl bF1 HRW hWo
  go_wp2
  clear f3
  go_loopw [10, 25] (fun v i wr => ∃ k : Nat, k ≤ f.ls.length ∧ i = .int .i64 k ∧ wr.ownsRow w1.heap.size 3 1 v k (flt inL (Pl.tab (Pl.lnV l r f) k)) ∧ Hid (∀ i, i < k → Pl.lnE l r f i = 0) ∧ Below w1.heap.size w1 wr) (fun _ i _ => f.ls.length - (intOf i).toNat)
  case atStart => exact ⟨0, Nat.zero_le _, rfl, World.ownsRow_nil _ _ _ _, Lib.hid (fun i hi => absurd hi (Nat.not_lt_zero _)), Below.refl _ _⟩
  case round =>
    obtain ⟨k, hk, rfl, hown, hall, hW⟩ := hrel
    obtain ⟨wo, rfl⟩ : ∃ wo, wo = wr := ⟨_, rfl⟩
    have hBo := hB1.trans (hW.mono hB1.size)
    by_cases hlt : k < f.ls.length
    · have hltI : (k : Int) < (f.ls.length : Int) := by omega
      obtain ⟨bx, ox, hfaE, hbx, hcx⟩ := HRW1.out.open (by omega)
      have hr := row_at hbx hcx hW hlt
      have HAK := Lib.hid (HA.out k hlt)
      obtain ⟨hle, hlv⟩ := HLE.out k hlt
      have HFE : Hid (Pl.lnE l r f k ≠ 0 → E = Pl.lnE l r f k) := Lib.hid (fun h => by rw [← HE.out, HIE.out]; exact Pl.fe_hit hall.out h hlt)
      have HNX : Hid (Pl.lnE l r f k = 0 → ∀ i, i < k + 1 → Pl.lnE l r f i = 0) := Lib.hid (fun h i hi => by
        rcases Nat.lt_succ_iff_lt_or_eq.1 hi with h' | rfl
        · exact hall.out i h'
        · exact h)
      rw [← hle, ← hlv] at HAK
      clear hcx hle hlv hall
      generalize f.ls[k] = x at *
      obtain ⟨p, hp⟩ : ∃ p, Pl.lnE l r f k = p := ⟨_, rfl⟩
      obtain ⟨u, hu⟩ : ∃ u, Pl.lnV l r f k = u := ⟨_, rfl⟩
      rw [hp, hu] at HAK
      rw [hp] at HFE HNX
      have HU := Lib.hid hu
      have bE := Blk.new wo 55 (lnA x)
      have hE1 := (Below.refl wo.heap.size wo).alloc (Nat.le_refl _) (.cells (lnA x) 55)
      have hW1 := hW.trans (hE1.mono hW.size)
      have hB2 := hBo.trans (hE1.mono hBo.size)
      have hown1 := own_keep hown hE1
      have hre := bE.range
      have hrf := (HF1.out.below hW1 hFl1).range
      clear hp hu hown hE1 hBo hW bE
      generalize hwE : wo.alloc (.cells (lnA x) 55) = wE at *
      have HX : Hid (f.a = some ⟨bx, ox, none⟩) := Lib.hid hfaE
      rw [hfaE]
      go_wp2_with (first | refine ldm_ln hr rfl _ rfl rfl ?_ | refine ldm_ln hre rfl _ rfl rfl ?_ | refine ldm_fm (s := f) hrf rfl _ rfl rfl ?_)
      refine (HAK.out _ hB2).mono ?_
      rintro e w2 ⟨rfl, hb⟩
      have hW2 := hW1.trans (hb.mono hW1.size)
      have hB3 := hB2.trans (hb.mono hB2.size)
      have hown2 := own_keep hown1 (hb.mono (Nat.le_refl _))
      have hrf2 := (HF1.out.below hW2 hFl1).range
      by_cases hp0 : p = 0
      · subst hp0
        have hne : (decide ((0 : Int) = 0)) = true := rfl
        have HOW := Lib.hid (hown2.alloc (.cells (inL u).toArray 3))
        go_wp2_with (at_builtin; refine wpList_append_own _ rfl _ _ 46 rfl w1.heap.size 3 i0 _ 1 8 Tryd.underlying46 hi hz0 hz01 hz2 rfl (by decide) _ _ _ rfl HOW.out ⟨w2.heap.size, 0, none⟩ 1 1 (inL u) rfl rfl (new_cells' _ _ _ rfl) (encIn.one _) (by unfold maxLen; omega) (by omega) (by have := hW2.size; simp; omega) ?_; intro v' w9 hown' hgrow _)
        go_roundw
        case rel => exact ⟨k + 1, by omega, by go_num, by rw [Pl.tab_succ, flt_append, flt_one, HU.out]; exact hown', HNX.out (by trivial), (hW2.alloc hW2.size (.cells (inL u).toArray 3)).grown hgrow (hW2.alloc hW2.size _).size (fun s e => (hown2.lt s e).1)⟩
        case measure => simp [intOf]; omega
      · have HNK := Lib.hid (HNO.out p w2 (by rw [HE.out]; exact HFE.out hp0) hp0 hB3)
        have e1 : S = 0 := HS.out.symm.trans HNK.out.1
        have e2 : E = p := HFE.out hp0
        subst e1 e2
        have HZ := Lib.hid HNK.out.2
        clear HNK HNO HE HFE HNX HS
        have hne : (E == 0) = false := by simpa using hp0
        go_wp2
        exact bodyPost_ret (v := .tuple #[.slice none 0 0, .int .i64 0, .int .i64 E]) (by simp [results, Tryd.results29, go_sem]) rfl ⟨_, rfl, HZ.out⟩
    · obtain rfl : k = f.ls.length := by omega
      have hE0 : Pl.ivE l r f = 0 := by rw [HIE.out]; exact Pl.fe_zero hall.out
      have HZ := Lib.hid (fun hb => HYES.out w1 wo u10 hB1 hE0 hown hb)
      have hZ := HZ.out hBo
      have e1 : E = 0 := HE.out.symm.trans hE0
      have e2 : S = Pl.sm (Pl.lnV l r f) f.ls.length := HS.out.symm.trans hZ.2
      have HZ1 := Lib.hid hZ.1
      have hT : (Pl.tab (Pl.lnV l r f) f.ls.length).length = f.ls.length := Pl.tab_len _ _
      have hown1 : wo.ownsRow w1.heap.size 3 1 u10 (Pl.tab (Pl.lnV l r f) f.ls.length).length (flt inL (Pl.tab (Pl.lnV l r f) f.ls.length)) := by rw [hT]; exact hown
      obtain ⟨A1, c1, rfl, hr1, _, _⟩ := rows_of_owns encIn hown1
      have HSU := Lib.hid (sum_b A1 (Pl.tab (Pl.lnV l r f) f.ls.length) c1 _ rfl (by rw [hT]; omega) (fun k hk => by
        rw [hT] at hk
        rw [Pl.cu_tab _ _ hk]
        have := HSUM.out k hk
        omega) S (by rw [hT, Pl.cu_tab _ _ (Nat.le_refl _), e2]) wo hr1)
      rw [hT] at *
      clear hown hown1 hr1 hZ HZ e2 HYES HIE HSUM HA HLE HNO HS HE hall
      subst e1
      go_wp2_with fail
      refine HSU.out.mono ?_
      rintro e w2 ⟨rfl, hw2⟩
      subst hw2
      go_wp2
      exact bodyPost_ret (v := .tuple #[.slice A1 f.ls.length c1, .int .i64 S, .int .i64 0]) (by simp [results, Tryd.results29, go_sem]) rfl ⟨_, rfl, HZ1.out⟩
end Go.Proofs.YtdihnbjmeppbcaaDoor
