/- validSteps, validPrice, ValidPrices, ValidForm, of the program. -/
import Derived.Test.YtdihnbjmeppbcaaDoorWF
namespace Go.Proofs.YtdihnbjmeppbcaaDoor
open Go.RowKit Go.Shelf

theorem stp_at {l : List Pl.Stp} {k : Nat} (h : k < l.length) : l[k] = l.getD k default := by
  rw [List.getD_eq_getElem?_getD, List.getElem?_eq_getElem h]; rfl

set_option maxRecDepth 100000 in
set_option maxHeartbeats 8000000 in
theorem vsteps_b (A : Option Addr) (l : List Pl.Stp) (c m : Nat) (hm : l.length = m) (hm6 : m ≤ maxLen) (v : Bool) (hv : Pl.vst l = v) (w : World) (hI : Rows stL 2 w A l) :
    Calls Tryd.prog 86 #[.slice A m c] w fun e w' => e = .returned (.bool v) ∧ Below w.heap.size w w' := by
  have hm63 := max63 hm6
  have hB0 := Below.refl w.heap.size w
  obtain ⟨x1, h1⟩ : ∃ x, Pl.inB 1 (m : Int) 8 = x := ⟨_, rfl⟩
  have H1 := Lib.hid (fun w' : World => within_b (m : Int) 1 8 x1 h1 w')
  cases x1
  · have HF : Hid (v = false) := Lib.hid (by rw [← hv]; exact Pl.vst_len (by rw [hm]; exact h1))
    clear hI hm hm6 hv h1
    go_enter Tryd.func86, Tryd.ntmps86
    go_wp2_with fail
    refine (H1.out _).mono ?_
    rintro e w1 ⟨rfl, hw1⟩
    subst hw1
    go_wp2
    go_ret
    exact ⟨by rw [HF.out]; rfl, hB0⟩
  have hm8 : 1 ≤ m ∧ m ≤ 8 := by have := Pl.inB_true.1 h1; omega
  obtain ⟨bx, ox, rfl, hbx, hcx⟩ := hI.open (by omega)
  have hr0 := hcx 0 (by omega)
  have q0 : w.cell? ⟨bx, ox, none⟩ = some (.int .i64 (l.getD 0 default).c) := by
    rw [stp_at (show 0 < l.length by omega)] at hr0
    have := hr0 0 _ rfl
    simpa using this
  have hm0 : (0 : Int) < (m : Int) := by omega
  by_cases hone : (l.getD 0 default).c = 1
  rotate_left
  · have HF : Hid (v = false) := Lib.hid (by rw [← hv]; exact Pl.vst_one hone)
    have d1 : ((l.getD 0 default).c == 1) = false := by simpa using hone
    have d2 : decide ((l.getD 0 default).c = 1) = false := decide_eq_false hone
    generalize (l.getD 0 default).c = z at *
    clear hI hm hm6 hv h1 hr0
    go_enter Tryd.func86, Tryd.ntmps86
    go_wp2_with fail
    refine (H1.out _).mono ?_
    rintro e w1 ⟨rfl, hw1⟩
    subst hw1
    go_wp2
    go_ret
    exact ⟨by rw [HF.out]; rfl, hB0⟩
  rw [hone] at q0
  have HM := Lib.hid hm
  have HCX := Lib.hid hcx
  have HBAD : Hid (∀ i, i < m → Pl.sok l i = false → v = false) := Lib.hid (fun i hi h => by rw [← hv]; exact Pl.vst_bad (by omega) h)
  have HALL : Hid ((∀ i, i < m → Pl.sok l i = true) → v = true) := Lib.hid (fun h => by rw [← hv, Pl.vst_true]; exact ⟨by omega, by omega, hone, fun i hi => h i (by omega)⟩)
  clear hI hm hm6 hv h1 hr0 hcx hone
  go_enter Tryd.func86, Tryd.ntmps86
  go_wp2_with fail
  refine (H1.out _).mono ?_
  rintro e w1 ⟨rfl, hw1⟩
  subst hw1
  go_wp2
  go_loopw [3, 19] (fun b i wr => ∃ k : Nat, k ≤ m ∧ i = .int .i64 k ∧ b = .int .i64 (Pl.sb l k) ∧ Hid (-1 ≤ Pl.sb l k ∧ Pl.sb l k ≤ 100000) ∧ Hid (∀ i, i < k → Pl.sok l i = true) ∧ Below w1.heap.size w1 wr) (fun _ i _ => m - (intOf i).toNat)
  case atStart => exact ⟨0, Nat.zero_le _, rfl, rfl, Lib.hid (by simp [Pl.sb]), Lib.hid (fun i hi => absurd hi (Nat.not_lt_zero _)), hB0⟩
  case round =>
    obtain ⟨k, hk, rfl, rfl, hbd, hall, hW⟩ := hrel
    obtain ⟨wo, rfl⟩ : ∃ wo, wo = wr := ⟨_, rfl⟩
    by_cases hlt : k < m
    · have hltI : (k : Int) < (m : Int) := by omega
      have hkx : k < l.length := by rw [HM.out]; exact hlt
      have hr := row_at hbx HCX.out hW hkx
      have HSB : Hid (Pl.sb l (k + 1) = l[k].c) := Lib.hid (by rw [stp_at hkx]; rfl)
      obtain ⟨y1, h1⟩ : ∃ y, Pl.inB (Pl.sb l k + 1) l[k].c 100000 = y := ⟨_, rfl⟩
      obtain ⟨y2, h2⟩ : ∃ y, Pl.inB 0 l[k].m 10000000 = y := ⟨_, rfl⟩
      have HSO : Hid (Pl.sok l k = (y1 && y2)) := Lib.hid (by unfold Pl.sok; rw [← stp_at hkx, h1, h2])
      have HBD := Lib.hid (HBAD.out k hlt)
      have HNX : Hid (Pl.sok l k = true → ∀ i, i < k + 1 → Pl.sok l i = true) := Lib.hid (fun h i hi => by
        rcases Nat.lt_succ_iff_lt_or_eq.1 hi with h' | rfl
        · exact hall.out i h'
        · exact h)
      have hbd' := hbd.out
      clear hall hbd
      generalize l[k] = x at *
      generalize hsb : Pl.sb l k = b at *
      clear hsb
      have kb : IntKind.i64.wrap (b + 1) = b + 1 := IntWalk.i64_in _ (by omega)
      have HXR : Hid (y1 = true → -1 ≤ x.c ∧ x.c ≤ 100000) := Lib.hid (fun h => by rw [h] at h1; have := Pl.inB_true.1 h1; omega)
      have HA := Lib.hid (fun w' : World => within_b x.c (b + 1) 100000 y1 h1 w')
      have HB2 := Lib.hid (fun w' : World => within_b x.m 0 10000000 y2 h2 w')
      have bE := Blk.new wo 95 (stA x)
      have hBE := hW.alloc hW.size (.cells (stA x) 95)
      have e0 := bE.cell 0
      have e1 := bE.cell 1
      clear hW bE h1 h2 hbd'
      go_wp2_with (refine ldm_st hr rfl _ rfl rfl ?_)
      refine (HA.out _).mono ?_
      rintro e w2 ⟨rfl, hw2⟩
      rw [← hw2] at e0 e1 hBE
      clear hw2 hr
      generalize wo.heap.size = ge at *
      cases y1
      · have HF := Lib.hid (HBD.out (by rw [HSO.out]; rfl))
        go_wp2
        go_ret
        exact ⟨by rw [HF.out]; rfl, hBE⟩
      go_wp2_with fail
      refine (HB2.out _).mono ?_
      rintro e w3 ⟨rfl, hw3⟩
      subst hw3
      cases y2
      · have HF := Lib.hid (HBD.out (by rw [HSO.out]; rfl))
        go_wp2
        go_ret
        exact ⟨by rw [HF.out]; rfl, hBE⟩
      have HN := Lib.hid (HNX.out (by rw [HSO.out]; rfl))
      have HR2 := Lib.hid (HXR.out (by first | rfl | trivial))
      go_wp2
      go_roundw
      case rel => exact ⟨k + 1, by omega, by go_num, by rw [HSB.out], Lib.hid (by rw [HSB.out]; exact HR2.out), HN, hBE⟩
      case measure => simp [intOf]; omega
    · obtain rfl : k = m := by omega
      have HT := Lib.hid (HALL.out hall.out)
      go_wp2
      go_ret
      exact ⟨by rw [HT.out]; rfl, hW⟩

set_option maxRecDepth 100000 in
set_option maxHeartbeats 4000000 in
theorem vprice_b (x : Pl.Pr) (hs : x.md.size ≤ maxLen) (hst : x.st.length ≤ maxLen) (v : Bool) (hv : Pl.vp x = v) (w : World) (hI : Rows stL 2 w x.a x.st) :
    Calls Tryd.prog 43 #[.agg (prA x)] w fun e w' => e = .returned (.bool v) ∧ Below w.heap.size w w' := by
  have hB := (Below.refl w.heap.size w).alloc (Nat.le_refl _) (.cells (prA x) 67)
  have bX := Blk.new w 67 (prA x)
  obtain ⟨x1, h1⟩ : ∃ y, Pl.wdB x.md = y := ⟨_, rfl⟩
  obtain ⟨x2, h2⟩ : ∃ y, Pl.dy x.d = y := ⟨_, rfl⟩
  obtain ⟨x3, h3⟩ : ∃ y, Pl.vst x.st = y := ⟨_, rfl⟩
  have HV : Hid (v = (x1 && (x2 && x3))) := Lib.hid (by rw [← hv]; exact Pl.vp_parts x x1 x2 x3 h1 h2 h3)
  have H1 := Lib.hid (fun w' : World => word_b x.md _ rfl hs x1 h1 w')
  have H2 := Lib.hid (fun w' : World => dy_b x.d x2 h2 w')
  have H3 := Lib.hid (fun w' (hb : Below w.heap.size w w') => vsteps_b x.a x.st x.k _ rfl hst x3 h3 w' (hI.below hb))
  have q0 := bX.cell 0
  have HX := Lib.hid bX
  have HB := Lib.hid hB
  have hlt := bX.lt
  clear hv h1 h2 h3 hs bX hB hI hst
  go_enter Tryd.func43, Tryd.ntmps43
  go_wp2_with fail
  refine (H1.out _).mono ?_
  rintro e w1 ⟨rfl, hb⟩
  have hB2 := HB.out.trans (hb.mono HB.out.size)
  have bX1 := HX.out.below hb hlt
  have p1 := bX1.cell 1
  have p2 := bX1.cell 2
  clear hb bX1 H1 HX
  cases x1
  · go_wp2
    go_ret
    exact ⟨by rw [HV.out]; rfl, hB2⟩
  go_wp2_with fail
  refine (H2.out _).mono ?_
  rintro e w2 ⟨rfl, hw⟩
  subst hw
  cases x2
  · go_wp2
    go_ret
    exact ⟨by rw [HV.out]; rfl, hB2⟩
  go_wp2_with fail
  refine (H3.out _ hB2).mono ?_
  rintro e w3 ⟨rfl, hb3⟩
  have hB3 := hB2.trans (hb3.mono hB2.size)
  go_wp2
  go_ret
  exact ⟨by rw [HV.out]; rfl, hB3⟩

set_option maxRecDepth 100000 in
set_option maxHeartbeats 4000000 in
theorem vprices_b (A : Option Addr) (l : List Pl.Pr) (c m : Nat) (hm : l.length = m) (v : Bool) (hv : Pl.vps l = v) (w : World) (hI : PrsIn w A l c) :
    Calls Tryd.prog 15 #[.slice A m c] w fun e w' => e = .returned (.bool v) ∧ Below w.heap.size w w' := by
  have hm6 : m ≤ maxLen := by rw [← hm]; exact Nat.le_trans hI.cap hI.top
  obtain ⟨x, hx⟩ : ∃ x, l.all Pl.vp = x := ⟨_, rfl⟩
  obtain ⟨y, hy⟩ : ∃ y, decide (l.map Pl.pk).Nodup = y := ⟨_, rfl⟩
  have HV : Hid (v = (decide (m ≤ 60) && (x && y))) := Lib.hid (by rw [← hv, Pl.vps_eq]; exact Pl.vls_parts m hm x y hx hy)
  have hm63 := max63 hm6
  have eg : ∀ args w, (callFunc 43 args).run Tryd.prog w = .ok (.enter 43 args) w := enters_of Tryd.func43 (by kernel_rfl) rfl
  have H1 := Lib.hid (every_p 43 eg A l c m hm hm6 Pl.vp x hx w hI.rows (fun z hz W hW => vprice_b z (hI.each z hz).2.2.2 (Nat.le_trans (hI.each z hz).2.1 (hI.each z hz).2.2.1) _ rfl W ((hI.each z hz).1.below hW)))
  have H2 : Hid (m ≤ 60 → x = true → ∀ w', Below w.heap.size w w' → Calls Tryd.prog 44 #[.slice A m c, .func (.func 45) #[] #[]] w' fun e w'' => e = .returned (.bool y) ∧ Below w'.heap.size w' w'') := Lib.hid (fun h6 h1 w' hb => dist_p A l c m hm (by omega) (fun z hz => ⟨(hI.each z hz).2.2.2, by
    rw [h1, List.all_eq_true] at hx
    have := Pl.vp_true.1 (hx z hz)
    exact WalkArith.wf_i64 (by have h0 := this.d0; have h1 := this.d1; show -9223372036854775808 ≤ z.d ∧ z.d ≤ 9223372036854775807; omega)⟩) y hy w' (hI.rows.below hb))
  have hB := Below.refl w.heap.size w
  clear hx hy hv hI hm hm6 eg
  by_cases h6 : m ≤ 60
  rotate_left
  · have i1 : ¬ (m : Int) ≤ 60 := by omega
    have HF : Hid (v = false) := Lib.hid (by rw [HV.out, decide_eq_false h6]; rfl)
    go_enter Tryd.func15, Tryd.ntmps15
    go_wp2_with fail
    go_ret
    exact ⟨by rw [HF.out]; first | rfl | simp, hB⟩
  have i1 : (m : Int) ≤ 60 := by omega
  have HF : Hid (v = (x && y)) := Lib.hid (by rw [HV.out, decide_eq_true h6]; rfl)
  have H3 := Lib.hid (H2.out h6)
  clear HV H2 h6
  go_enter Tryd.func15, Tryd.ntmps15
  go_wp2_with fail
  refine H1.out.mono ?_
  rintro e w1 ⟨rfl, hb⟩
  cases x
  · go_wp2
    go_ret
    exact ⟨by rw [HF.out]; rfl, hb⟩
  · have H4 := Lib.hid (H3.out rfl w1 hb)
    go_wp2_with fail
    refine H4.out.mono ?_
    rintro e w2 ⟨rfl, hb2⟩
    have hB2 := hb.trans (hb2.mono hb.size)
    go_wp2
    go_ret
    exact ⟨by rw [HF.out]; rfl, hB2⟩

set_option maxRecDepth 100000 in
set_option maxHeartbeats 4000000 in
theorem vform_b (f : Pl.Fm) (v : Bool) (hv : Pl.vf f = v) (w : World) (hF : FmIn w f) :
    Calls Tryd.prog 19 #[.agg (fmA f)] w fun e w' => e = .returned (.bool v) ∧ Below w.heap.size w w' := by
  have hB := (Below.refl w.heap.size w).alloc (Nat.le_refl _) (.cells (fmA f) 28)
  have bX := Blk.new w 28 (fmA f)
  obtain ⟨n, hn⟩ : ∃ n, f.ls.length = n := ⟨_, rfl⟩
  have hn6 : n ≤ maxLen := by rw [← hn]; exact Nat.le_trans hF.cap hF.top
  have n63 := max63 hn6
  obtain ⟨x1, h1⟩ : ∃ y, Pl.wdB f.cus = y := ⟨_, rfl⟩
  obtain ⟨x2, h2⟩ : ∃ y, Pl.dy f.d = y := ⟨_, rfl⟩
  obtain ⟨x3, h3⟩ : ∃ y, Pl.cyB f.cur = y := ⟨_, rfl⟩
  obtain ⟨x4, h4⟩ : ∃ y, Pl.inB 1 (n : Int) 40 = y := ⟨_, rfl⟩
  obtain ⟨x5, h5⟩ : ∃ y, f.ls.all Pl.vl = y := ⟨_, rfl⟩
  have HV : Hid (v = (x1 && (x2 && (x3 && (x4 && x5))))) := Lib.hid (by rw [← hv]; exact Pl.vf_parts f n hn x1 x2 x3 x4 x5 h1 h2 h3 h4 h5)
  have eg : ∀ args w, (callFunc 59 args).run Tryd.prog w = .ok (.enter 59 args) w := enters_of Tryd.func59 (by kernel_rfl) rfl
  have H1 := Lib.hid (fun w' : World => word_b f.cus _ rfl hF.cus x1 h1 w')
  have H2 := Lib.hid (fun w' : World => dy_b f.d x2 h2 w')
  have H3 := Lib.hid (fun w' : World => cur_b f.cur _ rfl hF.cur x3 h3 w')
  have H4 := Lib.hid (fun w' : World => within_b (n : Int) 1 40 x4 h4 w')
  have H5 := Lib.hid (fun w' (hb : Below w.heap.size w w') => every_l 59 eg f.a f.ls f.k n hn hn6 Pl.vl x5 h5 w' (hF.rows.below hb) (fun z hz W _ => vline_b z (hF.each z hz) _ rfl W))
  rw [← hn] at H4 H5 n63
  clear hv h1 h2 h3 h4 h5 hF hn6 eg hn
  have q0 := bX.cell 0
  have HX := Lib.hid bX
  have HB := Lib.hid hB
  have hlt := bX.lt
  clear bX hB
  go_enter Tryd.func19, Tryd.ntmps19
  go_wp2_with fail
  refine (H1.out _).mono ?_
  rintro e w1 ⟨rfl, hb⟩
  have hB2 := HB.out.trans (hb.mono HB.out.size)
  have bX1 := HX.out.below hb hlt
  have p1 := bX1.cell 1
  have p2 := bX1.cell 2
  have hlt1 := bX1.lt
  clear hb H1 HX HB q0 hlt
  cases x1
  · go_wp2
    go_ret
    exact ⟨by rw [HV.out]; rfl, hB2⟩
  go_wp2_with fail
  refine (H2.out _).mono ?_
  rintro e w2 ⟨rfl, hw⟩
  subst hw
  cases x2
  · go_wp2
    go_ret
    exact ⟨by rw [HV.out]; rfl, hB2⟩
  go_wp2_with fail
  refine (H3.out _).mono ?_
  rintro e w3 ⟨rfl, hb3⟩
  have hB3 := hB2.trans (hb3.mono hB2.size)
  have p3 := (bX1.below hb3 hlt1).cell 3
  clear hb3 bX1 hB2 p1 p2 H2 H3
  cases x3
  · go_wp2
    go_ret
    exact ⟨by rw [HV.out]; rfl, hB3⟩
  go_wp2_with fail
  refine (H4.out _).mono ?_
  rintro e w4 ⟨rfl, hw⟩
  subst hw
  cases x4
  · go_wp2
    go_ret
    exact ⟨by rw [HV.out]; rfl, hB3⟩
  go_wp2_with fail
  refine (H5.out _ hB3).mono ?_
  rintro e w5 ⟨rfl, hb5⟩
  have hB5 := hB3.trans (hb5.mono hB3.size)
  go_wp2
  go_ret
  exact ⟨by rw [HV.out]; rfl, hB5⟩
end Go.Proofs.YtdihnbjmeppbcaaDoor
