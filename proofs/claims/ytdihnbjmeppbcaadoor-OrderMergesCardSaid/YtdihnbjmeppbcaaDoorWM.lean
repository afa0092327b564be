/- pieces, amount, checkOrder, Line, Invoice, of the program. -/
import Derived.Test.YtdihnbjmeppbcaaDoorWK
import Derived.Test.YtdihnbjmeppbcaaDoorP6
namespace Go.Proofs.YtdihnbjmeppbcaaDoor
open Go.RowKit Go.Shelf

set_option maxRecDepth 100000 in
set_option maxHeartbeats 4000000 in
theorem pieces_b (A : Option Addr) (l : List Pl.Ln) (c m : Nat) (hm : l.length = m) (hm4 : m ≤ 40) (hcn : ∀ x, x ∈ l → 1 ≤ x.cnt ∧ x.cnt ≤ 1000) (n : ByteArray) (v : Int) (hv : Pl.pcs l n m = v) (w : World) (hI : Rows lnL 4 w A l) :
    Calls Tryd.prog 94 #[.slice A m c, .string n] w fun e w' => e = .returned (.int .i64 v) ∧ Below w.heap.size w w' := by
  have HI := Lib.hid hI
  have HM := Lib.hid hm
  have HV := Lib.hid hv
  have HIN := Lib.hid (fun k (hk : k ≤ m) => Pl.pcs_in hcn n (k := k) (by omega))
  have HCN := Lib.hid hcn
  have hB0 := Below.refl w.heap.size w
  clear hI hm hv hcn
  go_enter Tryd.func94, Tryd.ntmps94
  go_wp2
  go_loopw [5, 10] (fun t i wr => ∃ k : Nat, k ≤ m ∧ i = .int .i64 k ∧ t = .int .i64 (Pl.pcs l n k) ∧ Below w.heap.size w wr) (fun _ i _ => m - (intOf i).toNat)
  case atStart => exact ⟨0, Nat.zero_le _, rfl, rfl, hB0⟩
  case round =>
    obtain ⟨k, hk, rfl, rfl, hW⟩ := hrel
    obtain ⟨wo, rfl⟩ : ∃ wo, wo = wr := ⟨_, rfl⟩
    by_cases hlt : k < m
    · have hltI : (k : Int) < (m : Int) := by omega
      have hkx : k < l.length := by rw [HM.out]; exact hlt
      obtain ⟨bx, ox, rfl, hbx, hcx⟩ := HI.out.open (by omega)
      have hr := row_at hbx hcx hW hkx
      have HST := Lib.hid (Pl.pcs_step (m := n) hkx)
      have hin := HIN.out k (by omega)
      have hxc := HCN.out _ (List.getElem_mem hkx)
      clear hcx
      generalize l[k] = x at *
      generalize Pl.pcs l n k = t at *
      have kt : IntKind.i64.wrap (t + x.cnt) = t + x.cnt := IntWalk.i64_in _ (by omega)
      have bE := Blk.new wo 55 (lnA x)
      have hBE := hW.alloc hW.size (.cells (lnA x) 55)
      have e0 := bE.cell 0
      have e3 := bE.cell 3
      obtain ⟨b1, hb1⟩ : ∃ b, (x.md.toList == n.toList) = b := ⟨_, rfl⟩
      have HQ : Hid (x.md = n ↔ b1 = true) := Lib.hid (by rw [← hb1, bs_eq, decide_eq_true_iff])
      clear hW bE hin hxc
      cases b1
      · have HN : Hid (Pl.pcs l n (k + 1) = t) := Lib.hid (by rw [HST.out, if_neg (fun h => by have := HQ.out.1 h; cases this)])
        go_wp2_with (refine ldm_ln hr rfl _ rfl rfl ?_)
        go_roundw
        case rel => exact ⟨k + 1, by omega, by go_num, by rw [HN.out], hBE⟩
        case measure => simp [intOf]; omega
      · have HN : Hid (Pl.pcs l n (k + 1) = t + x.cnt) := Lib.hid (by rw [HST.out, if_pos (HQ.out.2 rfl)])
        go_wp2_with (refine ldm_ln hr rfl _ rfl rfl ?_)
        go_roundw
        case rel => exact ⟨k + 1, by omega, by go_num, by rw [HN.out], hBE⟩
        case measure => simp [intOf]; omega
    · obtain rfl : k = m := by omega
      rw [HV.out]
      go_wp2
      go_ret
      exact ⟨rfl, hW⟩

theorem prs_days {l : List Pl.Pr} (h : Pl.vps l = true) : l.length ≤ 60 ∧ ∀ x, x ∈ l → 0 ≤ x.d ∧ x.d ≤ 100000 := by
  rw [Pl.vps_eq, Pl.vls_true] at h
  refine ⟨h.1, fun x hx => ?_⟩
  obtain ⟨i, hi, rfl⟩ := List.getElem_of_mem hx
  have := Pl.vp_true.1 (h.2.1 i hi)
  exact ⟨this.d0, this.d1⟩
theorem rts_ok {l : List Pl.Rt} (h : Pl.vrs l = true) : l.length ≤ 60 ∧ ∀ x, x ∈ l → Pl.vr x = true := by
  rw [Pl.vrs_eq, Pl.vls_true] at h
  refine ⟨h.1, fun x hx => ?_⟩
  obtain ⟨i, hi, rfl⟩ := List.getElem_of_mem hx
  exact h.2.1 i hi

set_option maxRecDepth 100000 in
set_option maxHeartbeats 8000000 in
theorem amount_b (A : Option Addr) (l : List Pl.Pr) (c : Nat) (B : Option Addr) (r : List Pl.Rt) (j : Nat) (f : Pl.Fm) (x : Pl.Ln) (hc : Pl.Ck l r f) (hx : x ∈ f.ls) (w : World) (hP : PrsIn w A l c) (hR : RtsIn w B r j) (hF : FmIn w f) :
    Calls Tryd.prog 72 #[.slice A l.length c, .slice B r.length j, .agg (fmA f), .agg (lnA x)] w fun e w' => e = .returned (.tuple #[.int .i64 (Pl.amV l r f x), .int .i64 (Pl.amE l r f x)]) ∧ Below w.heap.size w w' := by
  have hf := Pl.vf_true.1 hc.f
  have hcn := Pl.cnts hf
  have hpq := Pl.amQ_in (f := f) hc.p (hcn x hx)
  have hB0 := (Below.refl w.heap.size w).alloc (Nat.le_refl _) (.cells (fmA f) 28)
  have hB := hB0.alloc (by simp) (.cells (lnA x) 55)
  have bF := (Blk.new w 28 (fmA f)).alloc (.cells (lnA x) 55)
  have bX := Blk.new (w.alloc (.cells (fmA f) 28)) 55 (lnA x)
  simp only [World.size_alloc] at bX
  have HS := Lib.hid (fun w' (hb : Below w.heap.size w w') => stepsOf_b A l c _ rfl (prs_days hc.p).1 (prs_days hc.p).2 x.md f.d w' (hP.rows.below hb))
  have HPC := Lib.hid (fun w' (hb : Below w.heap.size w w') => pieces_b f.a f.ls f.k _ rfl hf.n1 hcn x.md _ rfl w' (hF.rows.below hb))
  have hM := prM_of hP (Pl.fnd_mem (l := l) (ks := l.map Pl.pk) (n := x.md) (d := f.d))
  have HCE := Lib.hid (fun w' (hb : Below w.heap.size w w') => cents_b _ _ (Pl.fnd l (Pl.lt (l.map Pl.pk) x.md f.d l.length)).k _ rfl hM.len (Pl.pcs f.ls x.md f.ls.length) _ rfl w' (hM.rows.below hb))
  have HCV := Lib.hid (fun w' (hb : Below w.heap.size w w') => conv_b B r j _ rfl (rts_ok hc.r).1 (rts_ok hc.r).2 f.cur f.d (Pl.amP l f x * x.cnt) (Lib.hid (by omega)) w' (hR.rows.below hb))
  obtain ⟨V, hV⟩ : ∃ V, Pl.amV l r f x = V := ⟨_, rfl⟩
  obtain ⟨E, hE⟩ : ∃ E, Pl.amE l r f x = E := ⟨_, rfl⟩
  rw [hV, hE]
  unfold Pl.amV at hV
  unfold Pl.amE at hE
  have ep : Pl.cen (Pl.fnd l (Pl.lt (l.map Pl.pk) x.md f.d l.length)).st (Pl.pcs f.ls x.md f.ls.length) (Pl.fnd l (Pl.lt (l.map Pl.pk) x.md f.d l.length)).st.length = Pl.amP l f x := rfl
  rw [ep] at HCE
  have er : Pl.lt (l.map Pl.pk) x.md f.d l.length = Pl.amR l f x := rfl
  rw [er] at HS HCE
  generalize hrr : Pl.amR l f x = rr at *
  generalize Pl.amP l f x = P at *
  generalize Pl.pcs f.ls x.md f.ls.length = q at *
  generalize Pl.cV r f.cur f.d (P * x.cnt) = CV at *
  generalize Pl.cE r f.cur f.d (P * x.cnt) = CE at *
  have kp : IntKind.i64.wrap (P * x.cnt) = P * x.cnt := IntWalk.i64_in _ (by omega)
  have f1 := bF.cell 1
  have x0 := bX.cell 0
  have HBF := Lib.hid bF
  have HBX := Lib.hid bX
  have hFl := bF.lt
  have hXl := bX.lt
  clear hc hx hP hR hF hf hcn hpq hB0 bF bX hM ep er hrr
  generalize hWo : (w.alloc (.cells (fmA f) 28)).alloc (.cells (lnA x) 55) = W at *
  cases rr with
  | none =>
    have e1 : 0 = V := hV
    have e2 : 82 = E := hE
    subst e1 e2
    have es : Pl.soE none = 82 := rfl
    rw [es] at HS
    go_enter Tryd.func72, Tryd.ntmps72
    go_wp2_with fail
    refine (HS.out _ hB).mono ?_
    rintro e w1 ⟨rfl, hb⟩
    have hB1 := hB.trans (hb.mono hB.size)
    go_wp2
    go_ret2
    exact ⟨rfl, hB1⟩
  | some k =>
    have e1 : CV = V := hV
    have e2 : CE = E := hE
    subst e1 e2
    have es : Pl.soE (some k) = 0 := rfl
    rw [es] at HS
    generalize Pl.fnd l (some k) = F at *
    go_enter Tryd.func72, Tryd.ntmps72
    go_wp2_with fail
    refine (HS.out _ hB).mono ?_
    rintro e w1 ⟨rfl, hb⟩
    have hB1 := hB.trans (hb.mono hB.size)
    have bF1 := HBF.out.below hb hFl
    have bX1 := HBX.out.below hb hXl
    have hFl1 := bF1.lt
    have hXl1 := bX1.lt
    clear f1 x0 hb HBF HBX hFl hXl hWo hB HS
    have f3 := bF1.cell 3
    have x0 := bX1.cell 0
    go_wp2_with fail
    refine (HPC.out _ hB1).mono ?_
    rintro e w2 ⟨rfl, hb2⟩
    have hB2 := hB1.trans (hb2.mono hB1.size)
    have bF2 := bF1.below hb2 hFl1
    have bX2 := bX1.below hb2 hXl1
    have hFl2 := bF2.lt
    have hXl2 := bX2.lt
    clear f3 x0 hb2 bF1 bX1 hFl1 hXl1 hB1 HPC
    go_wp2_with fail
    refine (HCE.out _ hB2).mono ?_
    rintro e w3 ⟨rfl, hb3⟩
    have hB3 := hB2.trans (hb3.mono hB2.size)
    have bF3 := bF2.below hb3 hFl2
    have bX3 := bX2.below hb3 hXl2
    clear hb3 bF2 bX2 hFl2 hXl2 hB2 HCE
    have f1 := bF3.cell 1
    have f2 := bF3.cell 2
    have x3 := bX3.cell 3
    go_wp2_with fail
    refine (HCV.out _ hB3).mono ?_
    rintro e w4 ⟨rfl, hb4⟩
    have hB4 := hB3.trans (hb4.mono hB3.size)
    go_wp2
    go_ret2
    exact ⟨rfl, hB4⟩

set_option maxRecDepth 100000 in
set_option maxHeartbeats 4000000 in
theorem checkOrder_b (A : Option Addr) (l : List Pl.Pr) (c : Nat) (B : Option Addr) (r : List Pl.Rt) (j : Nat) (f : Pl.Fm) (w : World) (hP : PrsIn w A l c) (hR : RtsIn w B r j) (hF : FmIn w f) :
    Calls Tryd.prog 70 #[.slice A l.length c, .slice B r.length j, .agg (fmA f)] w fun e w' => e = .returned (.int .i64 (Pl.ckE l r f)) ∧ Below w.heap.size w w' := by
  have hB := (Below.refl w.heap.size w).alloc (Nat.le_refl _) (.cells (fmA f) 28)
  have bF := Blk.new w 28 (fmA f)
  have hrl : r.length ≤ maxLen := Nat.le_trans hR.cap hR.top
  obtain ⟨x1, h1⟩ : ∃ x, Pl.vps l = x := ⟨_, rfl⟩
  obtain ⟨x2, h2⟩ : ∃ x, Pl.vrs r = x := ⟨_, rfl⟩
  obtain ⟨x3, h3⟩ : ∃ x, Pl.vf f = x := ⟨_, rfl⟩
  have H1 := Lib.hid (fun w' hb => vprices_b A l c _ rfl x1 h1 w' (hP.below (W' := w') hb))
  have H2 := Lib.hid (fun w' hb => vrates_b B r j _ rfl hrl hR.each x2 h2 w' (hR.rows.below (W' := w') hb))
  have H3 := Lib.hid (fun w' hb => vform_b f x3 h3 w' (hF.below (W' := w') hb))
  obtain ⟨E, hE⟩ : ∃ E, Pl.ckE l r f = E := ⟨_, rfl⟩
  rw [hE]
  unfold Pl.ckE at hE
  rw [h1, h2, h3] at hE
  have HF := Lib.hid bF
  have hFl := bF.lt
  clear h1 h2 h3 hP hR hF hrl bF
  generalize hWo : w.alloc (.cells (fmA f) 28) = W at *
  cases x1
  · have e1 : 80 = E := hE
    subst e1
    go_enter Tryd.func70, Tryd.ntmps70
    go_wp2_with fail
    refine (H1.out _ hB).mono ?_
    rintro e w1 ⟨rfl, hb⟩
    have hB1 := hB.trans (hb.mono hB.size)
    go_wp2
    go_ret
    exact ⟨rfl, hB1⟩
  cases x2
  · have e1 : 81 = E := hE
    subst e1
    go_enter Tryd.func70, Tryd.ntmps70
    go_wp2_with fail
    refine (H1.out _ hB).mono ?_
    rintro e w1 ⟨rfl, hb⟩
    have hB1 := hB.trans (hb.mono hB.size)
    clear hB
    go_wp2_with fail
    refine (H2.out _ hB1).mono ?_
    rintro e w2 ⟨rfl, hb2⟩
    have hB2 := hB1.trans (hb2.mono hB1.size)
    go_wp2
    go_ret
    exact ⟨rfl, hB2⟩
  have e1 : (if x3 = true then 0 else 3) = E := hE
  clear hE
  go_enter Tryd.func70, Tryd.ntmps70
  go_wp2_with fail
  refine (H1.out _ hB).mono ?_
  rintro e w1 ⟨rfl, hb⟩
  have hB1 := hB.trans (hb.mono hB.size)
  have bF1 := HF.out.below hb hFl
  have hFl1 := bF1.lt
  clear hB hb HF hFl hWo
  go_wp2_with fail
  refine (H2.out _ hB1).mono ?_
  rintro e w2 ⟨rfl, hb2⟩
  have hB2 := hB1.trans (hb2.mono hB1.size)
  have hr2 := (bF1.below hb2 hFl1).range
  clear hB1 hb2 bF1 hFl1
  go_wp2_with (refine ldm_fm hr2 rfl _ rfl rfl ?_)
  refine (H3.out _ hB2).mono ?_
  rintro e w3 ⟨rfl, hb3⟩
  have hB3 := hB2.trans (hb3.mono hB2.size)
  cases x3
  · have e2 : 3 = E := e1
    subst e2
    clear e1
    go_wp2
    go_ret
    exact ⟨rfl, hB3⟩
  · have e2 : 0 = E := e1
    subst e2
    clear e1
    go_wp2
    go_ret
    exact ⟨rfl, hB3⟩
end Go.Proofs.YtdihnbjmeppbcaaDoor
