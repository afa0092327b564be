/- ofModel, Line, of the document. -/
import Derived.Test.YtdihnbjmeppbcaaDoorWO
import Derived.Test.YtdihnbjmeppbcaaDoorWL
import Derived.Test.YtdihnbjmeppbcaaDoorWJ
namespace Go.Proofs.YtdihnbjmeppbcaaDoor
open Go.RowKit Go.Shelf

set_option maxRecDepth 100000 in
set_option maxHeartbeats 4000000 in
theorem ofModel_b (f : Pl.Fm) (hcn : ∀ x, x ∈ f.ls → 1 ≤ x.cnt ∧ x.cnt ≤ 1000) (h40 : f.ls.length ≤ 40) (n : ByteArray) (w : World) (hF : FmIn w f) :
    Calls Tryd.prog 73 #[.agg (fmA f), .string n] w fun e w' => e = .returned (.int .i64 (Pl.pcs f.ls n f.ls.length)) ∧ Below w.heap.size w w' := by
  have hB := (Below.refl w.heap.size w).alloc (Nat.le_refl _) (.cells (fmA f) 28)
  have bX := Blk.new w 28 (fmA f)
  have HR := Lib.hid (hF.rows.below hB)
  have HIN := Lib.hid (fun k (hk : k ≤ f.ls.length) => Pl.pcs_in hcn n (k := k) hk)
  have HCN := Lib.hid hcn
  obtain ⟨fcus, fd, fcur, fls, fa, fk⟩ := f
  simp only at h40 HR HIN HCN
  have p3 := bX.cell 3
  have HB := Lib.hid hB
  clear hF hcn bX hB
  generalize hW0 : w.alloc (.cells (fmA ⟨fcus, fd, fcur, fls, fa, fk⟩) 28) = W0 at *
  go_enter Tryd.func73, Tryd.ntmps73
  go_wp2
  go_loop [5, 6] (fun t i => ∃ k : Nat, k ≤ fls.length ∧ i = .int .i64 k ∧ t = .int .i64 (Pl.pcs fls n k)) (fun _ i => fls.length - (intOf i).toNat)
  case atStart => exact ⟨0, Nat.zero_le _, rfl, rfl⟩
  case round =>
    obtain ⟨k, hk, rfl, rfl⟩ := hrel
    by_cases hlt : k < fls.length
    · have hltI : (k : Int) < (fls.length : Int) := by omega
      obtain ⟨bx, ox, rfl, hbx, hcx⟩ := HR.out.open (by omega)
      have hr := row_at hbx hcx (Below.refl _ _) hlt
      have HST := Lib.hid (Pl.pcs_step (m := n) hlt)
      have hin := HIN.out k hk
      have hxc := HCN.out _ (List.getElem_mem hlt)
      clear hcx
      generalize fls[k] = x at *
      generalize Pl.pcs fls n k = t at *
      have kt : IntKind.i64.wrap (t + x.cnt) = t + x.cnt := IntWalk.i64_in _ (by omega)
      have q0 : _ = some (Value.string x.md) := hr 0 _ rfl
      have q3 : _ = some (Value.int .i64 x.cnt) := hr 3 _ rfl
      rw [Nat.add_zero] at q0
      obtain ⟨b1, hb1⟩ : ∃ b, (x.md.toList == n.toList) = b := ⟨_, rfl⟩
      have HQ : Hid (x.md = n ↔ b1 = true) := Lib.hid (by rw [← hb1, bs_eq, decide_eq_true_iff])
      clear hr hin hxc
      cases b1
      · have HN : Hid (Pl.pcs fls n (k + 1) = t) := Lib.hid (by rw [HST.out, if_neg (fun h => by have := HQ.out.1 h; cases this)])
        go_wp2
        go_round
        case rel => exact ⟨k + 1, by omega, by go_num, by rw [HN.out]⟩
        case measure => simp [intOf]; omega
      · have HN : Hid (Pl.pcs fls n (k + 1) = t + x.cnt) := Lib.hid (by rw [HST.out, if_pos (HQ.out.2 rfl)])
        go_wp2
        go_round
        case rel => exact ⟨k + 1, by omega, by go_num, by rw [HN.out]⟩
        case measure => simp [intOf]; omega
    · obtain rfl : k = fls.length := by omega
      go_wp2
      go_ret
      exact ⟨rfl, HB.out⟩

theorem ckE_1 {l : List Pl.Pr} {r : List Pl.Rt} {f : Pl.Fm} (h : Pl.vps l = false) : Pl.ckE l r f = 80 := by unfold Pl.ckE; rw [h]; rfl
theorem ckE_2 {l : List Pl.Pr} {r : List Pl.Rt} {f : Pl.Fm} (h : Pl.vps l = true) (h2 : Pl.vrs r = false) : Pl.ckE l r f = 81 := by unfold Pl.ckE; rw [h, h2]; rfl
theorem ckE_3 {l : List Pl.Pr} {r : List Pl.Rt} {f : Pl.Fm} (h : Pl.vps l = true) (h2 : Pl.vrs r = true) (h3 : Pl.vf f = false) : Pl.ckE l r f = 3 := by unfold Pl.ckE; rw [h, h2, h3]; rfl
theorem li_no {l : List Pl.Pr} {r : List Pl.Rt} {f : Pl.Fm} {i K : Int} (h : Pl.ckE l r f = K) (hK : K ≠ 0) : Pl.liV l r f i = 0 ∧ Pl.liE l r f i = K := by
  unfold Pl.liV Pl.liE
  rw [h, if_neg hK, if_neg hK]
  exact ⟨rfl, rfl⟩
theorem li_out {l : List Pl.Pr} {r : List Pl.Rt} {f : Pl.Fm} {i : Int} (h : Pl.ckE l r f = 0) (hi : ¬ (0 ≤ i ∧ i < (f.ls.length : Int))) : Pl.liV l r f i = 0 ∧ Pl.liE l r f i = 2 := by
  unfold Pl.liV Pl.liE
  rw [h, if_pos rfl, if_pos rfl, if_neg hi, if_neg hi]
  exact ⟨rfl, rfl⟩
theorem li_in {l : List Pl.Pr} {r : List Pl.Rt} {f : Pl.Fm} {k : Nat} (h : Pl.ckE l r f = 0) (hk : k < f.ls.length) : Pl.liV l r f k = Pl.amV l r f f.ls[k] ∧ Pl.liE l r f k = Pl.amE l r f f.ls[k] := by
  have hi : 0 ≤ (k : Int) ∧ (k : Int) < (f.ls.length : Int) := by omega
  unfold Pl.liV Pl.liE
  rw [h, if_pos rfl, if_pos rfl, if_pos hi, if_pos hi, Int.toNat_natCast, ln_at hk]
  exact ⟨rfl, rfl⟩
theorem am_none {l : List Pl.Pr} {r : List Pl.Rt} {f : Pl.Fm} {x : Pl.Ln} (h : Pl.amR l f x = none) : Pl.amV l r f x = 0 ∧ Pl.amE l r f x = 82 := by
  unfold Pl.amV Pl.amE
  rw [h]
  exact ⟨rfl, rfl⟩
theorem am_some {l : List Pl.Pr} {r : List Pl.Rt} {f : Pl.Fm} {x : Pl.Ln} {k : Nat} (h : Pl.amR l f x = some k) : Pl.amV l r f x = Pl.cV r f.cur f.d (Pl.amP l f x * x.cnt) ∧ Pl.amE l r f x = Pl.cE r f.cur f.d (Pl.amP l f x * x.cnt) := by
  unfold Pl.amV Pl.amE
  rw [h]
  exact ⟨rfl, rfl⟩

set_option maxRecDepth 100000 in
set_option maxHeartbeats 16000000 in
theorem rLine_b (A : Option Addr) (l : List Pl.Pr) (c : Nat) (B : Option Addr) (r : List Pl.Rt) (j : Nat) (f : Pl.Fm) (i : Int) (w : World) (hP : PrsIn w A l c) (hR : RtsIn w B r j) (hF : FmIn w f) :
    Calls Tryd.prog 28 #[.slice A l.length c, .slice B r.length j, .agg (fmA f), .int .i64 i] w fun e w' => e = .returned (.tuple #[.int .i64 (Pl.liV l r f i), .int .i64 (Pl.liE l r f i)]) ∧ Below w.heap.size w w' := by
  have hB := (Below.refl w.heap.size w).alloc (Nat.le_refl _) (.cells (fmA f) 28)
  have bF := Blk.new w 28 (fmA f)
  have hrl : r.length ≤ maxLen := Nat.le_trans hR.cap hR.top
  obtain ⟨x1, h1⟩ : ∃ x, Pl.vps l = x := ⟨_, rfl⟩
  obtain ⟨x2, h2⟩ : ∃ x, Pl.vrs r = x := ⟨_, rfl⟩
  obtain ⟨x3, h3⟩ : ∃ x, Pl.vf f = x := ⟨_, rfl⟩
  have H1 := Lib.hid (fun w' hb => rvprices_b A l c _ rfl x1 h1 w' (hP.below (W' := w') hb))
  have H2 := Lib.hid (fun w' hb => rvrates_b B r j _ rfl hrl hR.each x2 h2 w' (hR.rows.below (W' := w') hb))
  have H3 := Lib.hid (fun w' hb => rvform_b f x3 h3 w' (hF.below (W' := w') hb))
  have hr0 := bF.range
  have HFB := Lib.hid bF
  have hFl := bF.lt
  have HLN := Lib.hid (fun K (h : Pl.ckE l r f = K) (hK : K ≠ 0) => li_no (i := i) h hK)
  cases x1
  · have hZ := HLN.out 80 (ckE_1 h1) (by decide)
    rw [hZ.1, hZ.2]
    clear hP hR hF bF h1 h2 h3 hZ HLN
    generalize hWo : w.alloc (.cells (fmA f) 28) = W at *
    go_enter Tryd.func28, Tryd.ntmps28
    go_wp2_with fail
    refine (H1.out _ hB).mono ?_
    rintro e w1 ⟨rfl, hb1⟩
    have hB1 := hB.trans (hb1.mono hB.size)
    have bF1 := HFB.out.below hb1 hFl
    have hFl1 := bF1.lt
    go_wp2
    go_ret2
    exact ⟨rfl, hB1⟩
  cases x2
  · have hZ := HLN.out 81 (ckE_2 h1 h2) (by decide)
    rw [hZ.1, hZ.2]
    clear hP hR hF bF h1 h2 h3 hZ HLN
    generalize hWo : w.alloc (.cells (fmA f) 28) = W at *
    go_enter Tryd.func28, Tryd.ntmps28
    go_wp2_with fail
    refine (H1.out _ hB).mono ?_
    rintro e w1 ⟨rfl, hb1⟩
    have hB1 := hB.trans (hb1.mono hB.size)
    have bF1 := HFB.out.below hb1 hFl
    have hFl1 := bF1.lt
    go_wp2_with fail
    refine (H2.out _ hB1).mono ?_
    rintro e w2 ⟨rfl, hb2⟩
    have hB2 := hB1.trans (hb2.mono hB1.size)
    have bF2 := bF1.below hb2 hFl1
    have hFl2 := bF2.lt
    have hr2 := bF2.range
    go_wp2
    go_ret2
    exact ⟨rfl, hB2⟩
  cases x3
  · have hZ := HLN.out 3 (ckE_3 h1 h2 h3) (by decide)
    rw [hZ.1, hZ.2]
    clear hP hR hF bF h1 h2 h3 hZ HLN
    generalize hWo : w.alloc (.cells (fmA f) 28) = W at *
    go_enter Tryd.func28, Tryd.ntmps28
    go_wp2_with fail
    refine (H1.out _ hB).mono ?_
    rintro e w1 ⟨rfl, hb1⟩
    have hB1 := hB.trans (hb1.mono hB.size)
    have bF1 := HFB.out.below hb1 hFl
    have hFl1 := bF1.lt
    go_wp2_with fail
    refine (H2.out _ hB1).mono ?_
    rintro e w2 ⟨rfl, hb2⟩
    have hB2 := hB1.trans (hb2.mono hB1.size)
    have bF2 := bF1.below hb2 hFl1
    have hFl2 := bF2.lt
    have hr2 := bF2.range
    go_wp2_with (refine ldm_fm hr2 rfl _ rfl rfl ?_)
    refine (H3.out _ hB2).mono ?_
    rintro e w3 ⟨rfl, hb3⟩
    have hB3 := hB2.trans (hb3.mono hB2.size)
    have bF3 := bF2.below hb3 hFl2
    have hFl3 := bF3.lt
    go_wp2
    go_ret2
    exact ⟨rfl, hB3⟩
  have hc : Pl.Ck l r f := ⟨h1, h2, h3⟩
  have hk0 := hc.e
  have hvf := Pl.vf_true.1 hc.f
  have hn1 := hvf.n1
  have hcn := Pl.cnts hvf
  by_cases i0 : i < 0
  · have hZ := li_out (l := l) (r := r) (f := f) hk0 (i := i) (by omega)
    rw [hZ.1, hZ.2]
    have d0 : decide (i < 0) = true := decide_eq_true i0
    clear hP hR hF bF h1 h2 h3 hZ HLN hc hk0 hvf hn1 hcn
    generalize hWo : w.alloc (.cells (fmA f) 28) = W at *
    go_enter Tryd.func28, Tryd.ntmps28
    go_wp2_with fail
    refine (H1.out _ hB).mono ?_
    rintro e w1 ⟨rfl, hb1⟩
    have hB1 := hB.trans (hb1.mono hB.size)
    have bF1 := HFB.out.below hb1 hFl
    have hFl1 := bF1.lt
    go_wp2_with fail
    refine (H2.out _ hB1).mono ?_
    rintro e w2 ⟨rfl, hb2⟩
    have hB2 := hB1.trans (hb2.mono hB1.size)
    have bF2 := bF1.below hb2 hFl1
    have hFl2 := bF2.lt
    have hr2 := bF2.range
    go_wp2_with (refine ldm_fm hr2 rfl _ rfl rfl ?_)
    refine (H3.out _ hB2).mono ?_
    rintro e w3 ⟨rfl, hb3⟩
    have hB3 := hB2.trans (hb3.mono hB2.size)
    have bF3 := bF2.below hb3 hFl2
    have hFl3 := bF3.lt
    go_wp2
    go_ret2
    exact ⟨rfl, hB3⟩
  have d0 : decide (i < 0) = false := decide_eq_false i0
  obtain ⟨k, rfl⟩ : ∃ k : Nat, i = (k : Int) := ⟨i.toNat, by omega⟩
  by_cases i1 : (f.ls.length : Int) ≤ (k : Int)
  · have hZ := li_out (l := l) (r := r) (f := f) hk0 (i := (k : Int)) (by omega)
    rw [hZ.1, hZ.2]
    have d1 : decide ((k : Int) ≥ (f.ls.length : Int)) = true := decide_eq_true i1
    clear hP hR hF bF h1 h2 h3 hZ HLN hc hk0 hvf hn1 hcn
    generalize hWo : w.alloc (.cells (fmA f) 28) = W at *
    go_enter Tryd.func28, Tryd.ntmps28
    go_wp2_with fail
    refine (H1.out _ hB).mono ?_
    rintro e w1 ⟨rfl, hb1⟩
    have hB1 := hB.trans (hb1.mono hB.size)
    have bF1 := HFB.out.below hb1 hFl
    have hFl1 := bF1.lt
    go_wp2_with fail
    refine (H2.out _ hB1).mono ?_
    rintro e w2 ⟨rfl, hb2⟩
    have hB2 := hB1.trans (hb2.mono hB1.size)
    have bF2 := bF1.below hb2 hFl1
    have hFl2 := bF2.lt
    have hr2 := bF2.range
    go_wp2_with (refine ldm_fm hr2 rfl _ rfl rfl ?_)
    refine (H3.out _ hB2).mono ?_
    rintro e w3 ⟨rfl, hb3⟩
    have hB3 := hB2.trans (hb3.mono hB2.size)
    have bF3 := bF2.below hb3 hFl2
    have hFl3 := bF3.lt
    have f3 := bF3.cell 3
    go_wp2
    go_ret2
    exact ⟨rfl, hB3⟩
  have d1 : decide ((k : Int) ≥ (f.ls.length : Int)) = false := decide_eq_false i1
  have hkl : k < f.ls.length := by omega
  have hx := List.getElem_mem hkl
  have hL := li_in (l := l) (r := r) hk0 hkl
  have hq := Pl.amQ_in (f := f) hc.p (hcn _ hx)
  have hU := Pl.prU_line hc hx
  have hCO := Pl.co_line hc hq
  have HN := @am_none l r f f.ls[k]
  have HS := @am_some l r f f.ls[k]
  rw [hL.1, hL.2]
  have HO := Lib.hid (fun w' (hb : Below w.heap.size w w') => ofModel_b f hcn hn1 f.ls[k].md w' (hF.below hb))
  have HPR := Lib.hid (fun w' (hb : Below w.heap.size w w') => rPrice_b A l c _ rfl f.ls[k].md f.d (Pl.pcs f.ls f.ls[k].md f.ls.length) w' (hP.below hb))
  have HCV := Lib.hid (fun w' (hb : Below w.heap.size w w') => rConvert_b B r j _ rfl hrl hR.each f.cur hF.cur f.d (Pl.amP l f f.ls[k] * f.ls[k].cnt) w' (hR.rows.below hb))
  rw [hU.1, hU.2] at HPR
  rw [hCO.1, hCO.2] at HCV
  have HRW := Lib.hid hF.rows
  obtain ⟨fcus, fd, fcur, fls, fa, fk⟩ := f
  simp only at hkl HRW hq HO HPR HCV HN HS H3 hn1 d1 i1
  obtain ⟨bx, ox, rfl, hbx, hcx⟩ := HRW.out.open (by omega)
  have hrk := hcx k hkl
  have hkI : (k : Int) < (fls.length : Int) := by omega
  clear hP hR hF bF h1 h2 h3 HLN hc hk0 hvf hcn hx hL hU hCO HRW hcx hrl
  generalize fls[k] = x at *
  generalize Pl.amV l r ⟨fcus, fd, fcur, fls, some ⟨bx, ox, none⟩, fk⟩ x = V at *
  generalize Pl.amE l r ⟨fcus, fd, fcur, fls, some ⟨bx, ox, none⟩, fk⟩ x = E at *
  generalize Pl.amR l ⟨fcus, fd, fcur, fls, some ⟨bx, ox, none⟩, fk⟩ x = rr at *
  generalize Pl.amP l ⟨fcus, fd, fcur, fls, some ⟨bx, ox, none⟩, fk⟩ x = P at *
  generalize Pl.pcs fls x.md fls.length = Q0 at *
  obtain ⟨pv, hpv⟩ : ∃ p, P * x.cnt = p := ⟨_, rfl⟩
  have kp : IntKind.i64.wrap (P * x.cnt) = pv := by rw [← hpv]; exact IntWalk.i64_in _ (by omega)
  rw [hpv] at HCV HS
  generalize Pl.cV r fcur fd pv = CV at *
  generalize Pl.cE r fcur fd pv = CE at *
  clear hq
  have HVS : Hid (∀ k, rr = some k → V = CV ∧ E = CE) := Lib.hid (fun k h => HS h)
  have HVN : Hid (rr = none → V = 0 ∧ E = 82) := Lib.hid HN
  clear HN HS hpv
  generalize hWo : w.alloc (.cells (fmA ⟨fcus, fd, fcur, fls, some ⟨bx, ox, none⟩, fk⟩) 28) = W at *
  go_enter Tryd.func28, Tryd.ntmps28
  go_wp2_with fail
  refine (H1.out _ hB).mono ?_
  rintro e w1 ⟨rfl, hb1⟩
  have hB1 := hB.trans (hb1.mono hB.size)
  have bF1 := HFB.out.below hb1 hFl
  have hFl1 := bF1.lt
  go_wp2_with fail
  refine (H2.out _ hB1).mono ?_
  rintro e w2 ⟨rfl, hb2⟩
  have hB2 := hB1.trans (hb2.mono hB1.size)
  have bF2 := bF1.below hb2 hFl1
  have hFl2 := bF2.lt
  have hr2 := bF2.range
  go_wp2_with (refine ldm_fm (s := ⟨fcus, fd, fcur, fls, some ⟨bx, ox, none⟩, fk⟩) hr2 rfl _ rfl rfl ?_)
  refine (H3.out _ hB2).mono ?_
  rintro e w3 ⟨rfl, hb3⟩
  have hB3 := hB2.trans (hb3.mono hB2.size)
  have bF3 := bF2.below hb3 hFl2
  have hFl3 := bF3.lt
  have f3 := bF3.cell 3
  have hr := rangeAt_below hrk hbx hB3
  have bE := Blk.new w3 55 (lnA x)
  have hE1 := (Below.refl w3.heap.size w3).alloc (Nat.le_refl _) (.cells (lnA x) 55)
  have hB4 := hB3.trans (hE1.mono hB3.size)
  have bF4 := bF3.below hE1 hFl3
  have hFl4 := bF4.lt
  have hEl := bE.lt
  clear hb1 hb2 hb3 hr2 hr0 bF1 bF2 hFl1 hFl2 hB1 hB2 HFB hFl hWo hE1 hB H1 H2 H3 bF3
  generalize hwE : w3.alloc (.cells (lnA x) 55) = wE at *
  have HO2 := Lib.hid (fun s : Ext wE => HO.out s.w (hB4.trans (s.h.mono hB4.size)))
  have HP2 := Lib.hid (fun s : Ext wE => HPR.out s.w (hB4.trans (s.h.mono hB4.size)))
  have z0 := fun s : Ext wE => (bF4.below s.h hFl4).cell 0
  have z1 := fun s : Ext wE => (bF4.below s.h hFl4).cell 1
  have z2 := fun s : Ext wE => (bF4.below s.h hFl4).cell 2
  have z3 := fun s : Ext wE => (bF4.below s.h hFl4).cell 3
  have y0 := fun s : Ext wE => (bE.below s.h hEl).cell 0
  have y3 := fun s : Ext wE => (bE.below s.h hEl).cell 3
  have HBE := Lib.hid bE
  have HBF := Lib.hid bF4
  clear bE bF4 HO HPR hB3 hFl3
  go_wp2_with (refine ldm_ln hr rfl _ rfl rfl ?_)
  clear f3 hr hrk
  refine wp_region_ext (by kernel_rfl) (by kernel_rfl) ?_
  repeat (go_big_quiet_step (first | (go_at_call 73; refine calls_ext (HO2.out _)) | (go_at_call 22; refine calls_ext (HP2.out _))))
  refine wpQuiet_nil ?_
  rintro _ ⟨s, rfl⟩
  have hB5 := hB4.trans (s.h.mono hB4.size)
  have bE5 := HBE.out.below s.h hEl
  have bF5 := HBF.out.below s.h hFl4
  have f1 := bF5.cell 1
  have f2 := bF5.cell 2
  have e3 := bE5.cell 3
  clear z0 z1 z2 z3 y0 y3 HO2 HP2 HBE HBF bE5 bF5
  cases rr with
  | none =>
    obtain ⟨v1, v2⟩ := HVN.out (by first | rfl | trivial)
    subst v1 v2
    have es : Pl.soE none = 82 := rfl
    rw [es]
    go_wp2
    go_ret2
    exact ⟨rfl, hB5⟩
  | some m =>
    obtain ⟨v1, v2⟩ := HVS.out m (by first | rfl | trivial)
    subst v1 v2
    have es : Pl.soE (some m) = 0 := rfl
    rw [es]
    go_wp2_with fail
    refine (HCV.out _ hB5).mono ?_
    rintro e w5 ⟨rfl, hb5⟩
    have hB6 := hB5.trans (hb5.mono hB5.size)
    go_wp2
    go_ret2
    exact ⟨rfl, hB6⟩
end Go.Proofs.YtdihnbjmeppbcaaDoor
