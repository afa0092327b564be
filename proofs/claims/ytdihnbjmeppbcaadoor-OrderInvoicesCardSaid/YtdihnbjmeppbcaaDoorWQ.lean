/- Invoice, of the document. -/
import Derived.Test.YtdihnbjmeppbcaaDoorWP
namespace Go.Proofs.YtdihnbjmeppbcaaDoor
open Go.RowKit Go.Shelf

theorem iv_no {l : List Pl.Pr} {r : List Pl.Rt} {f : Pl.Fm} {K : Int} (h : Pl.ckE l r f = K) (hK : K ≠ 0) : Pl.ivE l r f = K := by rw [ivE_ck (by rw [h]; exact hK), h]

set_option maxRecDepth 100000 in
set_option maxHeartbeats 16000000 in
theorem rInvoice_b (A : Option Addr) (l : List Pl.Pr) (c : Nat) (B : Option Addr) (r : List Pl.Rt) (j : Nat) (f : Pl.Fm) (w : World) (hP : PrsIn w A l c) (hR : RtsIn w B r j) (hF : FmIn w f) :
    Calls Tryd.prog 30 #[.slice A l.length c, .slice B r.length j, .agg (fmA f)] w fun e w' => ∃ v, e = .returned (.tuple #[v, .int .i64 (Pl.ivS l r f), .int .i64 (Pl.ivE l r f)]) ∧ IvI l r f w v w' := by
  have hB := (Below.refl w.heap.size w).alloc (Nat.le_refl _) (.cells (fmA f) 28)
  have bF := Blk.new w 28 (fmA f)
  have hrl : r.length ≤ maxLen := Nat.le_trans hR.cap hR.top
  have HNO : Hid (∀ E W, Pl.ivE l r f = E → E ≠ 0 → Below w.heap.size w W → Pl.ivS l r f = 0 ∧ IvI l r f w (.slice none 0 0) W) := Lib.hid (fun E W h hE hb => ⟨ivS_no (by rw [h]; exact hE), by rw [ivV_no (by rw [h]; exact hE)]; exact World.ownsRow_nil _ _ _ _, hb⟩)
  obtain ⟨x1, h1⟩ : ∃ x, Pl.vps l = x := ⟨_, rfl⟩
  obtain ⟨x2, h2⟩ : ∃ x, Pl.vrs r = x := ⟨_, rfl⟩
  obtain ⟨x3, h3⟩ : ∃ x, Pl.vf f = x := ⟨_, rfl⟩
  have H1 := Lib.hid (fun w' hb => rvprices_b A l c _ rfl x1 h1 w' (hP.below (W' := w') hb))
  have H2 := Lib.hid (fun w' hb => rvrates_b B r j _ rfl hrl hR.each x2 h2 w' (hR.rows.below (W' := w') hb))
  have H3 := Lib.hid (fun w' hb => rvform_b f x3 h3 w' (hF.below (W' := w') hb))
  have hr0 := bF.range
  have HFB := Lib.hid bF
  have hFl := bF.lt
  cases x1
  · have hE := iv_no (l := l) (r := r) (f := f) (ckE_1 h1) (by decide)
    have HNK := Lib.hid (fun W hb => HNO.out _ W hE (by decide) hb)
    rw [hE, (HNK.out w (Below.refl _ _)).1]
    clear hP hR hF bF h1 h2 h3 hE HNO
    generalize hWo : w.alloc (.cells (fmA f) 28) = W at *
    go_enter Tryd.func30, Tryd.ntmps30
    go_wp2_with fail
    refine (H1.out _ hB).mono ?_
    rintro e w1 ⟨rfl, hb1⟩
    have hB1 := hB.trans (hb1.mono hB.size)
    have bF1 := HFB.out.below hb1 hFl
    have hFl1 := bF1.lt
    have HZ := Lib.hid (HNK.out w1 hB1).2
    clear HNK
    go_wp2
    exact bodyPost_ret (v := .tuple #[.slice none 0 0, .int .i64 0, .int .i64 80]) (by simp [results, Tryd.results30, go_sem]) rfl ⟨_, rfl, HZ.out⟩
  cases x2
  · have hE := iv_no (l := l) (r := r) (f := f) (ckE_2 h1 h2) (by decide)
    have HNK := Lib.hid (fun W hb => HNO.out _ W hE (by decide) hb)
    rw [hE, (HNK.out w (Below.refl _ _)).1]
    clear hP hR hF bF h1 h2 h3 hE HNO
    generalize hWo : w.alloc (.cells (fmA f) 28) = W at *
    go_enter Tryd.func30, Tryd.ntmps30
    go_wp2_with fail
    refine (H1.out _ hB).mono ?_
    rintro e w1 ⟨rfl, hb1⟩
    have hB1 := hB.trans (hb1.mono hB.size)
    have bF1 := HFB.out.below hb1 hFl
    have hFl1 := bF1.lt
    go_wp2_with fail
    refine (H2.out _ hB1).mono ?_
    rintro e w2 ⟨rfl, hb2⟩
    have hB2 := hB1.trans (hb2.mono hB1.size)
    have bF2 := bF1.below hb2 hFl1
    have hFl2 := bF2.lt
    have hr2 := bF2.range
    have HZ := Lib.hid (HNK.out w2 hB2).2
    clear HNK
    go_wp2
    exact bodyPost_ret (v := .tuple #[.slice none 0 0, .int .i64 0, .int .i64 81]) (by simp [results, Tryd.results30, go_sem]) rfl ⟨_, rfl, HZ.out⟩
  cases x3
  · have hE := iv_no (l := l) (r := r) (f := f) (ckE_3 h1 h2 h3) (by decide)
    have HNK := Lib.hid (fun W hb => HNO.out _ W hE (by decide) hb)
    rw [hE, (HNK.out w (Below.refl _ _)).1]
    clear hP hR hF bF h1 h2 h3 hE HNO
    generalize hWo : w.alloc (.cells (fmA f) 28) = W at *
    go_enter Tryd.func30, Tryd.ntmps30
    go_wp2_with fail
    refine (H1.out _ hB).mono ?_
    rintro e w1 ⟨rfl, hb1⟩
    have hB1 := hB.trans (hb1.mono hB.size)
    have bF1 := HFB.out.below hb1 hFl
    have hFl1 := bF1.lt
    go_wp2_with fail
    refine (H2.out _ hB1).mono ?_
    rintro e w2 ⟨rfl, hb2⟩
    have hB2 := hB1.trans (hb2.mono hB1.size)
    have bF2 := bF1.below hb2 hFl1
    have hFl2 := bF2.lt
    have hr2 := bF2.range
    go_wp2_with (refine ldm_fm hr2 rfl _ rfl rfl ?_)
    refine (H3.out _ hB2).mono ?_
    rintro e w3 ⟨rfl, hb3⟩
    have hB3 := hB2.trans (hb3.mono hB2.size)
    have bF3 := bF2.below hb3 hFl2
    have hFl3 := bF3.lt
    have HZ := Lib.hid (HNK.out w3 hB3).2
    clear HNK
    go_wp2
    exact bodyPost_ret (v := .tuple #[.slice none 0 0, .int .i64 0, .int .i64 3]) (by simp [results, Tryd.results30, go_sem]) rfl ⟨_, rfl, HZ.out⟩
  have hc : Pl.Ck l r f := ⟨h1, h2, h3⟩
  have hk0 := hc.e
  have hn40 := (Pl.vf_true.1 hc.f).n1
  have HIE : Hid (Pl.ivE l r f = Pl.fe (Pl.lnE l r f) f.ls.length) := Lib.hid (ivE_fe hk0)
  have HSUM := Lib.hid (fun k (hk : k ≤ f.ls.length) => Pl.lnV_sum hc hk)
  have HLI : Hid (∀ k (hk : k < f.ls.length), Pl.liV l r f k = Pl.lnV l r f k ∧ Pl.liE l r f k = Pl.lnE l r f k) := Lib.hid (fun k hk => by unfold Pl.lnE Pl.lnV; rw [ln_at hk]; exact li_in hk0 hk)
  have HA := Lib.hid (fun (k : Nat) w' (hb : Below w.heap.size w w') => rLine_b A l c B r j f k w' (hP.below (W' := w') hb) (hR.below hb) (hF.below hb))
  have HYES : Hid (∀ W W' v, Below w.heap.size w W → Pl.ivE l r f = 0 → W'.ownsRow W.heap.size 3 1 v f.ls.length (flt inL (Pl.tab (Pl.lnV l r f) f.ls.length)) → Below w.heap.size w W' → IvI l r f w v W' ∧ Pl.ivS l r f = Pl.sm (Pl.lnV l r f) f.ls.length) := Lib.hid (fun W W' v hb hE ho hb' => by
    have e1 : Pl.ivV l r f = Pl.tab (Pl.lnV l r f) f.ls.length := if_pos hE
    refine ⟨⟨?_, hb'⟩, if_pos hE⟩
    rw [e1, Pl.tab_len]
    exact own_mono ho hb.size)
  obtain ⟨i0, hi, hz0, hz01, hz2⟩ := info_parts info3
  obtain ⟨S, hS⟩ : ∃ S, Pl.ivS l r f = S := ⟨_, rfl⟩
  obtain ⟨E, hE⟩ : ∃ E, Pl.ivE l r f = E := ⟨_, rfl⟩
  rw [hS, hE]
  have HS := Lib.hid hS
  have HE := Lib.hid hE
  clear hP hR hF bF h1 h2 h3 hc hk0 hS hE
  generalize hWo : w.alloc (.cells (fmA f) 28) = W at *
  go_enter Tryd.func30, Tryd.ntmps30
  go_wp2_with fail
  refine (H1.out _ hB).mono ?_
  rintro e w1 ⟨rfl, hb1⟩
  have hB1 := hB.trans (hb1.mono hB.size)
  have bF1 := HFB.out.below hb1 hFl
  have hFl1 := bF1.lt
  go_wp2_with fail
  refine (H2.out _ hB1).mono ?_
  rintro e w2 ⟨rfl, hb2⟩
  have hB2 := hB1.trans (hb2.mono hB1.size)
  have bF2 := bF1.below hb2 hFl1
  have hFl2 := bF2.lt
  have hr2 := bF2.range
  go_wp2_with (refine ldm_fm hr2 rfl _ rfl rfl ?_)
  refine (H3.out _ hB2).mono ?_
  rintro e w3 ⟨rfl, hb3⟩
  have hB3 := hB2.trans (hb3.mono hB2.size)
  have bF3 := bF2.below hb3 hFl2
  have hFl3 := bF3.lt
  have hgl : w.heap.size ≤ w3.heap.size := hB3.size
  have HF3 := Lib.hid bF3
  have HB3 := Lib.hid hB3
  clear hb1 hb2 hb3 hB1 hB2 hr2 hr0 bF1 bF2 hFl1 hFl2 hB HFB hFl hWo H1 H2 H3 bF3 hB3
  go_wp2
  go_loopw [9, 10, 11] (fun v t i wr => ∃ k : Nat, k ≤ f.ls.length ∧ i = .int .i64 k ∧ t = .int .i64 (Pl.sm (Pl.lnV l r f) k) ∧ wr.ownsRow w3.heap.size 3 1 v k (flt inL (Pl.tab (Pl.lnV l r f) k)) ∧ Hid (∀ i, i < k → Pl.lnE l r f i = 0) ∧ Below w3.heap.size w3 wr) (fun _ _ i _ => f.ls.length - (intOf i).toNat)
  case atStart => exact ⟨0, Nat.zero_le _, rfl, rfl, World.ownsRow_nil _ _ _ _, Lib.hid (fun i hi => absurd hi (Nat.not_lt_zero _)), Below.refl _ _⟩
  case round =>
    obtain ⟨k, hk, rfl, rfl, hown, hall, hW⟩ := hrel
    obtain ⟨wo, rfl⟩ : ∃ wo, wo = wr := ⟨_, rfl⟩
    have hBo := HB3.out.trans (hW.mono HB3.out.size)
    have bFo := HF3.out.below hW hFl3
    have p3 := bFo.cell 3
    have hro := bFo.range
    clear bFo
    by_cases hlt : k < f.ls.length
    · have hltI : (k : Int) < (f.ls.length : Int) := by omega
      have HAK := Lib.hid (HA.out k)
      obtain ⟨hle, hlv⟩ := HLI.out k hlt
      have HFE : Hid (Pl.lnE l r f k ≠ 0 → E = Pl.lnE l r f k) := Lib.hid (fun h => by rw [← HE.out, HIE.out]; exact Pl.fe_hit hall.out h hlt)
      have HNX : Hid (Pl.lnE l r f k = 0 → ∀ i, i < k + 1 → Pl.lnE l r f i = 0) := Lib.hid (fun h i hi => by
        rcases Nat.lt_succ_iff_lt_or_eq.1 hi with h' | rfl
        · exact hall.out i h'
        · exact h)
      rw [hle, hlv] at HAK
      have b1 := HSUM.out k (by omega)
      have b2 := HSUM.out (k + 1) (by omega)
      have e1 : Pl.sm (Pl.lnV l r f) k + Pl.lnV l r f k = Pl.sm (Pl.lnV l r f) (k + 1) := rfl
      have k1 : IntKind.i64.wrap (Pl.sm (Pl.lnV l r f) k + Pl.lnV l r f k) = Pl.sm (Pl.lnV l r f) (k + 1) := by rw [e1]; exact IntWalk.i64_in _ (by omega)
      clear hle hlv hall b1 b2 e1
      obtain ⟨p, hp⟩ : ∃ p, Pl.lnE l r f k = p := ⟨_, rfl⟩
      obtain ⟨u, hu⟩ : ∃ u, Pl.lnV l r f k = u := ⟨_, rfl⟩
      obtain ⟨t1, ht1⟩ : ∃ t, Pl.sm (Pl.lnV l r f) (k + 1) = t := ⟨_, rfl⟩
      rw [hp, hu] at HAK
      rw [hp] at HFE HNX
      rw [hu, ht1] at k1
      have HU := Lib.hid hu
      have HT := Lib.hid ht1
      clear hp hu ht1
      generalize Pl.sm (Pl.lnV l r f) k = t0 at *
      go_wp2_with (refine ldm_fm (s := f) hro rfl _ rfl rfl ?_)
      refine (HAK.out _ hBo).mono ?_
      rintro e w4 ⟨rfl, hb⟩
      have hW2 := hW.trans (hb.mono hW.size)
      have hB4 := hBo.trans (hb.mono hBo.size)
      have hown2 := own_keep hown (hb.mono (Nat.le_refl _))
      clear hb hro p3 hW hBo hown HAK
      by_cases hp0 : p = 0
      · subst hp0
        have HOW := Lib.hid (hown2.alloc (.cells (inL u).toArray 3))
        go_wp2_with (at_builtin; refine wpList_append_own _ rfl _ _ 46 rfl w3.heap.size 3 i0 _ 1 8 Tryd.underlying46 hi hz0 hz01 hz2 rfl (by decide) _ _ _ rfl HOW.out ⟨w4.heap.size, 0, none⟩ 1 1 (inL u) rfl rfl (new_cells' _ _ _ rfl) (encIn.one _) (by unfold maxLen; omega) (by omega) (by have := hW2.size; simp; omega) ?_; intro v' w9 hown' hgrow _)
        go_roundw
        case rel => exact ⟨k + 1, by omega, by go_num, by rw [HT.out], by rw [Pl.tab_succ, flt_append, flt_one, HU.out]; exact hown', HNX.out (by trivial), (hW2.alloc hW2.size (.cells (inL u).toArray 3)).grown hgrow (hW2.alloc hW2.size _).size (fun s e => (hown2.lt s e).1)⟩
        case measure => simp [intOf]; omega
      · have HNK := Lib.hid (HNO.out p w4 (by rw [HE.out]; exact HFE.out hp0) hp0 hB4)
        have e1 : S = 0 := HS.out.symm.trans HNK.out.1
        have e2 : E = p := HFE.out hp0
        subst e1 e2
        have HZ := Lib.hid HNK.out.2
        clear HNK HNO HE HFE HNX HS
        have hne : (E == 0) = false := by simpa using hp0
        go_wp2
        exact bodyPost_ret (v := .tuple #[.slice none 0 0, .int .i64 0, .int .i64 E]) (by simp [results, Tryd.results30, go_sem]) rfl ⟨_, rfl, HZ.out⟩
    · obtain rfl : k = f.ls.length := by omega
      have hE0 : Pl.ivE l r f = 0 := by rw [HIE.out]; exact Pl.fe_zero hall.out
      have hZ := HYES.out w3 wo u9 HB3.out hE0 hown hBo
      have e1 : E = 0 := HE.out.symm.trans hE0
      have e2 : S = Pl.sm (Pl.lnV l r f) f.ls.length := HS.out.symm.trans hZ.2
      have HZ1 := Lib.hid hZ.1
      clear hown hZ HYES HIE HSUM HA HLI HNO HS HE hall
      rw [← e2]
      subst e1
      clear e2
      go_wp2
      exact bodyPost_ret (v := .tuple #[u9, .int .i64 S, .int .i64 0]) (by simp [results, Tryd.results30, go_sem]) rfl ⟨_, rfl, HZ1.out⟩
end Go.Proofs.YtdihnbjmeppbcaaDoor
