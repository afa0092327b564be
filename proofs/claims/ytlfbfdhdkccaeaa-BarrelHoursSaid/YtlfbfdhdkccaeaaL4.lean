/- BarrelHours. -/
import Derived.Test.YtlfbfdhdkccaeaaS3
import Derived.Test.YtlfbfdhdkccaeaaP9
namespace Go.Proofs.Ytlfbfdhdkccaeaa
open Go.RowKit Go.Shelf

theorem bts_one (w : World) (b : Pl.Bt) : Bts (w.alloc (.cells (btA b) 25)) (some ⟨w.heap.size, 0, none⟩) [b] := by
  refine .inr ⟨w.heap.size, 0, rfl, by simp, fun k hk j v hj => ?_⟩
  rw [(Blk.new w 25 _).cell]
  match k, hk with
  | 0, _ =>
    match j, hj with
    | 0, hj => exact hj
    | 1, hj => exact hj
    | 2, hj => exact hj
    | 3, hj => exact hj
    | 4, hj => exact hj
    | 5, hj => exact hj
    | 6, hj => exact hj
/-- the counts -/
abbrev cnA (f : Nat → Int) : Array Value := #[.int .i64 (f 0), .int .i64 (f 1), .int .i64 (f 2), .int .i64 (f 3), .int .i64 (f 4), .int .i64 (f 5)]

theorem cn_set {f f' : Nat → Int} {j : Nat} (hj : j ≤ 5) (h : ∀ i, i ≤ 5 → f' i = if (j : Int) = (i : Int) then f i + 1 else f i) {v : Int} (hv : v = f j + 1) : (cnA f).setIfInBounds j (.int .i64 v) = cnA f' := by
  subst hv
  have h0 := h 0 (by omega)
  have h1 := h 1 (by omega)
  have h2 := h 2 (by omega)
  have h3 := h 3 (by omega)
  have h4 := h 4 (by omega)
  have h5 := h 5 (by omega)
  have hj6 : j = 0 ∨ j = 1 ∨ j = 2 ∨ j = 3 ∨ j = 4 ∨ j = 5 := by omega
  rcases hj6 with rfl | rfl | rfl | rfl | rfl | rfl <;> simp at h0 h1 h2 h3 h4 h5 <;> simp [h0, h1, h2, h3, h4, h5]

set_option maxRecDepth 100000 in
set_option maxHeartbeats 4000000 in
theorem hours_go (b : Pl.Bt) (cl fr : Int) (cs : Bool) (hvs : Pl.vs [b] = true) (hc0 : 0 ≤ cl) (hc1 : cl ≤ 100) (f0 : 0 ≤ fr) (f1 : fr ≤ 1000000) (w : World) :
    Calls Try.prog 14 #[.agg (btA b), .agg #[.int .i64 cl, .int .i64 fr], .bool cs] w fun e w' => e = .returned (.bool true) ∧ Below w.heap.size w w' := by
  have hvb : Pl.Vb b := (Pl.vs_iff.1 hvs).2.1 b (by simp)
  have hB0 := ((Below.refl w.heap.size w).alloc (Nat.le_refl _) (.cells (btA b) 25)).alloc (by simp) (.cells #[.int .i64 cl, .int .i64 fr] 52)
  have bB0 := (Blk.new w 25 (btA b)).alloc (.cells #[.int .i64 cl, .int .i64 fr] 52)
  have bP0 := Blk.new (w.alloc (.cells (btA b) 25)) 52 #[.int .i64 cl, .int .i64 fr]
  simp only [World.size_alloc] at bP0
  obtain ⟨wa, hwa⟩ : ∃ wa, wa = (w.alloc (.cells (btA b) 25)).alloc (.cells #[.int .i64 cl, .int .i64 fr] 52) := ⟨_, rfl⟩
  rw [← hwa] at hB0 bB0 bP0
  have s0 := fun s : Ext wa => s.cell ((bP0.cell 0).trans rfl)
  have s1 := fun s : Ext wa => s.cell ((bP0.cell 1).trans rfl)
  obtain ⟨x, hxc⟩ : ∃ x, Pl.hc cs cl = x := ⟨_, rfl⟩
  obtain ⟨x0, x1⟩ : 0 ≤ x ∧ x ≤ 100 := by rw [← hxc]; exact Pl.hc_bd hc0 hc1
  have HX : Hid (x = if cs = true then cl else 0) := Lib.hid hxc.symm
  have HS := Lib.hid sane_any
  have HCZ := Lib.hid (fun j (hj : j ≤ 5) => Pl.cs_zero hvb x0 j hj)
  have HCS := Lib.hid (fun p (hp : -1 ≤ p) j (hj : j ≤ 5) => Pl.cs_step hvb x0 hp j hj)
  have HCE := Lib.hid (Pl.cs_end hvb x0)
  have HCB := Lib.hid (fun p (hp : p ≤ 1000) j => Pl.cs_bd hvb x0 x1 hp j)
  have HMO := Lib.hid (fun p (hp : p + 1 < x + Pl.len b) => Pl.sg_mono hvb hp)
  have HIN := Lib.hid (fun (p j : Int) (hj : Pl.sgV b x p = j) (h5 : j ≠ 5) => Pl.sgV_in hj h5)
  have HOUT := Lib.hid (fun (p : Int) (hj : Pl.sgV b x p = 5) => Pl.sgV_out hvb hj)
  have HSB := Lib.hid (fun p => Pl.sg_bd b x p)
  obtain ⟨a0, b0, a1, b1, a2, b2, a3, b3, _⟩ := hvb
  have hlen : Pl.len b = b.h0 + b.h1 + b.h2 + b.h3 := rfl
  have HLN := Lib.hid hlen
  -- what Stage answers
  have HST := Lib.hid (fun (h : Int) (w' : World) (AL : Option Addr) (hI : Bts w' AL [b]) => (show Calls Try.prog 47 #[.slice AL 1 1, .agg (rnA ⟨0, fr, fr + (x + Pl.len b), cs⟩), .int .i64 cl, .int .i64 h] w' fun e w'' => e = .returned (.tuple #[.int .i64 (Pl.sgV b x (h - fr)), .int .i64 0]) ∧ Below w'.heap.size w' w'' by
    have h1 := Stage_any AL [b] 1 1 rfl ⟨0, fr, fr + (x + Pl.len b), cs⟩ (by unfold Pl.Rw Pl.W64; simp only; rw [hlen]; omega) cl h w' hI
    have e0 : Pl.stE [b] ⟨0, fr, fr + (x + Pl.len b), cs⟩ cl = 0 := Pl.stE_ok hvs ⟨Pl.inB_true.2 ⟨hc0, hc1⟩, by simp, by
      rw [Pl.er_true]
      show fr ≤ fr + (x + Pl.len b) ∧ fr + (x + Pl.len b) - fr = Pl.hc cs cl + Pl.len b
      rw [hxc, hlen]
      omega⟩
    rw [e0] at h1
    have e1 : Pl.stV [b] ⟨0, fr, fr + (x + Pl.len b), cs⟩ cl h = Pl.sgV b x (h - fr) := by
      unfold Pl.stV Pl.sgV
      rw [e0, if_pos rfl]
      show (if h < fr ∨ fr + (x + Pl.len b) ≤ h then (5 : Int) else Pl.sg b (Pl.hc cs cl) (h - fr)) = _
      rw [hxc]
      by_cases c1 : h < fr ∨ fr + (x + Pl.len b) ≤ h
      · rw [if_pos c1, if_pos (by omega)]
      · rw [if_neg c1, if_neg (by omega)]
    rw [e1] at h1
    exact h1))
  have HRV := Lib.hid (fun w' AL (hI : Bts w' AL [b]) => rvalid_any AL [b] 1 w' hI)
  rw [hvs] at HRV
  clear hvs hxc hlen
  have HB0 := Lib.hid hB0
  have HBB := Lib.hid bB0
  have hcc : ¬ cl < 0 := by omega
  have hcc1 : ¬ 100 < cl := by omega
  have hff : ¬ fr < 0 := by omega
  have hff1 : ¬ 1000000 < fr := by omega
  clear hB0 bB0 bP0
  go_enter Try.func14, Try.ntmps14
  go_wp2_with fail
  rw [← hwa]
  clear hwa
  refine wp_region_ext (by kernel_rfl) (by kernel_rfl) ?_
  repeat (go_big_quiet_step (fail))
  refine wpQuiet_nil ?_
  rintro _ ⟨s, rfl⟩
  have hB := HB0.out.trans (s.h.mono HB0.out.size)
  have bB := HBB.out.below s.h HBB.out.lt
  clear s0 s1 HBB HB0
  generalize s.w = w0 at *
  have hrb := bB.range
  have hT0 := bts_one w0 b
  have hB1 := hB.alloc hB.size (.cells (btA b) 25)
  have bB1 := bB.alloc (.cells (btA b) 25)
  have HT0 := Lib.hid hT0
  clear hT0
  go_wp2_with (refine ldm_bt hrb rfl _ rfl rfl ?_)
  refine (HRV.out _ _ HT0.out).mono ?_
  rintro e w1 ⟨rfl, hb1⟩
  have hB2 := hB1.trans (hb1.mono hB1.size)
  have bB2 := bB1.below hb1 bB1.lt
  have HT1 := Lib.hid (HT0.out.below hb1)
  obtain ⟨gl, hgl⟩ : ∃ gl, gl = w0.heap.size := ⟨_, rfl⟩
  rw [← hgl] at HT1
  have q3 := bB2.cell 3
  have q4 := bB2.cell 4
  have q5 := bB2.cell 5
  have q6 := bB2.cell 6
  have hsz : gl < w1.heap.size := by rw [hgl]; exact Nat.lt_of_lt_of_le (by simp) hb1.size
  rw [← hgl]
  clear hB hb1 bB bB1 hrb HT0 hB1 hgl HRV
  have k1 : IntKind.i64.wrap (fr + b.h0) = fr + b.h0 := IntWalk.i64_in _ (by omega)
  have k2 : IntKind.i64.wrap (fr + b.h0 + b.h1) = fr + b.h0 + b.h1 := IntWalk.i64_in _ (by omega)
  have k3 : IntKind.i64.wrap (fr + b.h0 + b.h1 + b.h2) = fr + b.h0 + b.h1 + b.h2 := IntWalk.i64_in _ (by omega)
  have k4 : IntKind.i64.wrap (fr + b.h0 + b.h1 + b.h2 + b.h3) = fr + b.h0 + b.h1 + b.h2 + b.h3 := IntWalk.i64_in _ (by omega)
  have k5 : IntKind.i64.wrap (fr + b.h0 + b.h1 + b.h2 + b.h3 + cl) = fr + b.h0 + b.h1 + b.h2 + b.h3 + cl := IntWalk.i64_in _ (by omega)
  have k6 : IntKind.i64.wrap (fr - 1) = fr - 1 := IntWalk.i64_in _ (by omega)
  obtain ⟨gr, hgr⟩ : ∃ gr, w1.heap.size = gr := ⟨_, rfl⟩
  obtain ⟨T, hT⟩ : ∃ T, fr + (x + Pl.len b) = T := ⟨_, rfl⟩
  rw [hT] at HST
  have hT2 : T = fr + (x + (b.h0 + b.h1 + b.h2 + b.h3)) := by rw [← hT, HLN.out]
  have HTT := Lib.hid hT
  clear hT
  obtain ⟨N, hN⟩ : ∃ N, x + Pl.len b = N := ⟨_, rfl⟩
  have hN2 : N = x + (b.h0 + b.h1 + b.h2 + b.h3) := by rw [← hN, HLN.out]
  have HNN := Lib.hid hN
  have hTN : T = fr + N := by omega
  rw [hN] at HCE HMO
  have HIN2 : Hid (∀ (p j : Int), Pl.sgV b x p = j → j ≠ 5 → 0 ≤ p ∧ p < N ∧ Pl.sg b x p = j) := Lib.hid (fun p j h1 h2 => by rw [← HNN.out]; exact HIN.out p j h1 h2)
  have HOUT2 : Hid (∀ (p : Int), Pl.sgV b x p = 5 → p < 0 ∨ N ≤ p) := Lib.hid (fun p h1 => by rw [← HNN.out]; exact HOUT.out p h1)
  obtain ⟨hTa, hTb⟩ : T ≤ fr + (x + (b.h0 + b.h1 + b.h2 + b.h3)) ∧ fr + (x + (b.h0 + b.h1 + b.h2 + b.h3)) ≤ T := by omega
  obtain ⟨hNa, hNb⟩ : N ≤ x + (b.h0 + b.h1 + b.h2 + b.h3) ∧ x + (b.h0 + b.h1 + b.h2 + b.h3) ≤ N := by omega
  obtain ⟨hTc, hTd⟩ : T ≤ fr + N ∧ fr + N ≤ T := by omega
  clear hN HIN HOUT hT2 hN2 hTN
  cases cs

  · have hx : x = 0 := HX.out
    have hT3 : fr + b.h0 + b.h1 + b.h2 + b.h3 = T := by omega
    have HXV := Lib.hid hx
    clear hx
    have hBR := hB2.alloc hB2.size (.cells #[.int .i64 0, .int .i64 fr, .int .i64 (fr + b.h0 + b.h1 + b.h2 + b.h3), .bool false] 66)
    have bR : Blk _ gr 66 (rnA ⟨0, fr, T, false⟩) := (by have h := Blk.new w1 66 #[.int .i64 0, .int .i64 fr, .int .i64 (fr + b.h0 + b.h1 + b.h2 + b.h3), .bool false]; rw [hgr] at h; have e : (rnA ⟨0, fr, T, false⟩) = #[.int .i64 0, .int .i64 fr, .int .i64 (fr + b.h0 + b.h1 + b.h2 + b.h3), .bool false] := (by rw [hT3]); rw [e]; exact h)
    have bC : Blk _ (gr + 1) 69 (cnA (fun _ => 0)) := (by have h := Blk.new (w1.alloc (.cells #[.int .i64 0, .int .i64 fr, .int .i64 (fr + b.h0 + b.h1 + b.h2 + b.h3), .bool false] 66)) 69 (cnA (fun _ => 0)); simp only [World.size_alloc, hgr] at h; exact h)
    have hBC := hBR.alloc hBR.size (.cells (cnA (fun _ => 0)) 69)
    have bR2 := bR.alloc (.cells (cnA (fun _ => 0)) 69)
    have bB3 := (bB2.alloc (.cells #[.int .i64 0, .int .i64 fr, .int .i64 (fr + b.h0 + b.h1 + b.h2 + b.h3), .bool false] 66)).alloc (.cells (cnA (fun _ => 0)) 69)
    have HT3 := Lib.hid (HT1.out.below ((((Below.refl _ _).alloc (Nat.le_refl _) (.cells #[.int .i64 0, .int .i64 fr, .int .i64 (fr + b.h0 + b.h1 + b.h2 + b.h3), .bool false] 66))).alloc (by simp) (.cells (cnA (fun _ => 0)) 69)))
    have HTE := Lib.hid hT3
    have hgrl : gl < gr := by omega
    have hgrw : w.heap.size < gr := by rw [← hgr]; exact bB2.lt
    clear hT3 bR hBR
    go_wp2
    clear k1 k2 k3 k4 k5 q3 q4 q5 q6 bB2 hgr
    go_loopw [12, 13, 14, 15] (fun la hr _ _ wr => ∃ k : Nat, ∃ La : Int, (k : Int) ≤ N + 2 ∧ hr = .int .i64 (fr + ((k : Int) - 1)) ∧ la = .int .i64 La ∧ 0 ≤ La ∧ (k = 0 → La = 0) ∧ Hid (1 ≤ k → (k : Int) - 1 < N → La ≤ Pl.sg b x ((k : Int) - 1)) ∧ Blk wr (gr + 1) 69 (cnA (Pl.cs b x ((k : Int) - 1))) ∧ Blk wr gr 66 (rnA ⟨0, fr, T, false⟩) ∧ Blk wr w.heap.size 25 (btA b) ∧ Hid (Bts wr (some ⟨gl, 0, none⟩) [b]) ∧ Below w.heap.size w wr) (fun _ hr _ _ _ => (T + 1 - intOf hr).toNat)
    case atStart =>
      refine ⟨0, 0, by omega, by rw [show fr + (((0 : Nat) : Int) - 1) = fr - 1 from by omega], rfl, Int.le_refl _, fun _ => rfl, Lib.hid (fun h => absurd h (by omega)), ?_, bR2, bB3, HT3, hBC⟩
      have e : cnA (Pl.cs b x (((0 : Nat) : Int) - 1)) = cnA (fun _ => 0) := by
        rw [show (((0 : Nat) : Int) - 1) = -1 from by omega]
        simp [HCZ.out 0 (by omega), HCZ.out 1 (by omega), HCZ.out 2 (by omega), HCZ.out 3 (by omega), HCZ.out 4 (by omega), HCZ.out 5 (by omega)]
      rw [e]
      exact bC
    case round =>
      clear bC bR2 bB3 HT3 hBC
      obtain ⟨k, La, hk, rfl, rfl, hLa, hLa0, hLa1, bC, bR, bB, hT, hW⟩ := hrel
      obtain ⟨wo, rfl⟩ : ∃ wo, wo = wr := ⟨_, rfl⟩
      obtain ⟨p, hp⟩ : ∃ p, (k : Int) - 1 = p := ⟨_, rfl⟩
      have hkp : (k : Int) = p + 1 := by omega
      have hp0 : -1 ≤ p := by omega
      have HKP := Lib.hid hkp
      rw [hp] at hLa1 bC
      rw [hp]
      have c2 := bR.cell 2
      by_cases hlt : fr + p ≤ T
      · have HSQ := Lib.hid (HST.out (fr + p) wo _ hT.out)
        rw [show fr + p - fr = p from by omega] at HSQ
        have hrr : wo.rangeAt gr 0 (rnL ⟨0, fr, T, false⟩) := bR.range
        have HSTEP := Lib.hid (HCS.out p hp0)
        have HBD := Lib.hid (HCB.out p (by omega))
        have HIN3 := Lib.hid (HIN2.out p)
        have HOUT3 := Lib.hid (HOUT2.out p)
        have HMO3 := Lib.hid (HMO.out p)
        have hvc := Pl.sgV_cases b x p
        generalize Pl.sgV b x p = V at *
        have HVC := Lib.hid hvc
        clear hvc hp hkp
        go_wp2_with (refine ldm_rn hrr rfl _ rfl rfl ?_)
        refine (HSQ.out).mono ?_
        rintro e w5 ⟨rfl, hb5⟩
        have bC5 := bC.below hb5 bC.lt
        have bR5 := bR.below hb5 bR.lt
        have bB5 := bB.below hb5 bB.lt
        have hT5 := Lib.hid (hT.out.below hb5)
        have hW5 := hW.trans (hb5.mono hW.size)
        have d2 := bR5.cell 2
        clear hb5 bC bR bB hW hrr HSQ c2
        rcases HVC.out with rfl | rfl | rfl | rfl | rfl | rfl
        · obtain ⟨p0, pN, psg⟩ := HIN3.out 0 rfl (by decide)
          have HSG := Lib.hid psg
          have t1 : ¬ fr + p < fr := by omega
          have t2 : ¬ T ≤ fr + p := by omega
          have t3 : ¬ (0 : Int) < La := by have := hLa1.out (by have := HKP.out; omega) (by omega); rw [HSG.out] at this; omega
          have e0 : w5.cell? ⟨gr + 1, 0, none⟩ = some (.int .i64 (Pl.cs b x p 0)) := bC5.cell 0
          have e1 := bC5.frozen 0
          obtain ⟨b1, b2⟩ := HBD.out 0
          have HNEW := Lib.hid (bC5.set_ 0 (.int .i64 (Pl.cs b x p 0 + 1)))
          have HCN := Lib.hid (cn_set (f := Pl.cs b x p) (f' := Pl.cs b x (p + 1)) (j := 0) (by omega) (fun i hi => HSTEP.out i hi) (v := Pl.cs b x p 0 + 1) rfl)
          have bR6 := bR5.far (p := ⟨gr + 1, 0, none⟩) (by simp) (.int .i64 (Pl.cs b x p 0 + 1))
          have bB6 := bB5.far (p := ⟨gr + 1, 0, none⟩) (by show w.heap.size ≠ gr + 1; omega) (.int .i64 (Pl.cs b x p 0 + 1))
          have hT6 : Hid (Bts (w5.setCell ⟨gr + 1, 0, none⟩ (.int .i64 (Pl.cs b x p 0 + 1))) (some ⟨gl, 0, none⟩) [b]) := Lib.hid (by
            rcases hT5.out with h | ⟨bb, oo, he, hbb, hcc⟩
            · cases h
            · cases he
              exact .inr ⟨gl, 0, rfl, by simpa using hbb, fun k hk j v hv => (World.cell?_of_block (a := ⟨gl, 0 + k * 7 + j, none⟩) (Below.heap_setCell w5 ⟨gr + 1, 0, none⟩ _ gl (by show gl ≠ gr + 1; omega))).trans (hcc k hk j v hv)⟩)
          have hW6 := hW5.setCell (p := ⟨gr + 1, 0, none⟩) (by show w.heap.size ≤ gr + 1; omega) (.int .i64 (Pl.cs b x p 0 + 1))
          have HLN2 : Hid (1 ≤ k + 1 → ((k + 1 : Nat) : Int) - 1 < N → (0 : Int) ≤ Pl.sg b x (((k + 1 : Nat) : Int) - 1)) := Lib.hid (fun _ h2 => by
            have h3 := HKP.out
            rw [show ((k + 1 : Nat) : Int) - 1 = p + 1 from by omega] at h2 ⊢
            have h4 := HMO3.out h2
            rw [HSG.out] at h4
            exact h4)
          generalize hcv : Pl.cs b x p 0 = cv at *
          have k1 : IntKind.i64.wrap (cv + 1) = cv + 1 := IntWalk.i64_in _ (by omega)
          have k2 : IntKind.i64.wrap (fr + p + 1) = fr + p + 1 := IntWalk.i64_in _ (by omega)
          have HCV := Lib.hid hcv
          clear psg hcv bC5 bR5 bB5 hW5 hT5
          go_wp2
          go_roundw
          case rel =>
            refine ⟨k + 1, 0, by have := HKP.out; omega, ?_, rfl, by omega, fun h => absurd h (by omega), HLN2, ?_, bR6, bB6, hT6, hW6⟩
            · have := HKP.out
              first | rfl | (rw [show fr + (((k + 1 : Nat) : Int) - 1) = fr + p + 1 from by omega])
            · have h3 := HKP.out
              rw [show ((k + 1 : Nat) : Int) - 1 = p + 1 from by omega, ← HCN.out]
              exact HNEW.out
          case measure => simp [intOf]; omega
        · obtain ⟨p0, pN, psg⟩ := HIN3.out 1 rfl (by decide)
          have HSG := Lib.hid psg
          have t1 : ¬ fr + p < fr := by omega
          have t2 : ¬ T ≤ fr + p := by omega
          have t3 : ¬ (1 : Int) < La := by have := hLa1.out (by have := HKP.out; omega) (by omega); rw [HSG.out] at this; omega
          have e0 : w5.cell? ⟨gr + 1, 1, none⟩ = some (.int .i64 (Pl.cs b x p 1)) := bC5.cell 1
          have e1 := bC5.frozen 1
          obtain ⟨b1, b2⟩ := HBD.out 1
          have HNEW := Lib.hid (bC5.set_ 1 (.int .i64 (Pl.cs b x p 1 + 1)))
          have HCN := Lib.hid (cn_set (f := Pl.cs b x p) (f' := Pl.cs b x (p + 1)) (j := 1) (by omega) (fun i hi => HSTEP.out i hi) (v := Pl.cs b x p 1 + 1) rfl)
          have bR6 := bR5.far (p := ⟨gr + 1, 1, none⟩) (by simp) (.int .i64 (Pl.cs b x p 1 + 1))
          have bB6 := bB5.far (p := ⟨gr + 1, 1, none⟩) (by show w.heap.size ≠ gr + 1; omega) (.int .i64 (Pl.cs b x p 1 + 1))
          have hT6 : Hid (Bts (w5.setCell ⟨gr + 1, 1, none⟩ (.int .i64 (Pl.cs b x p 1 + 1))) (some ⟨gl, 0, none⟩) [b]) := Lib.hid (by
            rcases hT5.out with h | ⟨bb, oo, he, hbb, hcc⟩
            · cases h
            · cases he
              exact .inr ⟨gl, 0, rfl, by simpa using hbb, fun k hk j v hv => (World.cell?_of_block (a := ⟨gl, 0 + k * 7 + j, none⟩) (Below.heap_setCell w5 ⟨gr + 1, 1, none⟩ _ gl (by show gl ≠ gr + 1; omega))).trans (hcc k hk j v hv)⟩)
          have hW6 := hW5.setCell (p := ⟨gr + 1, 1, none⟩) (by show w.heap.size ≤ gr + 1; omega) (.int .i64 (Pl.cs b x p 1 + 1))
          have HLN2 : Hid (1 ≤ k + 1 → ((k + 1 : Nat) : Int) - 1 < N → (1 : Int) ≤ Pl.sg b x (((k + 1 : Nat) : Int) - 1)) := Lib.hid (fun _ h2 => by
            have h3 := HKP.out
            rw [show ((k + 1 : Nat) : Int) - 1 = p + 1 from by omega] at h2 ⊢
            have h4 := HMO3.out h2
            rw [HSG.out] at h4
            exact h4)
          generalize hcv : Pl.cs b x p 1 = cv at *
          have k1 : IntKind.i64.wrap (cv + 1) = cv + 1 := IntWalk.i64_in _ (by omega)
          have k2 : IntKind.i64.wrap (fr + p + 1) = fr + p + 1 := IntWalk.i64_in _ (by omega)
          have HCV := Lib.hid hcv
          clear psg hcv bC5 bR5 bB5 hW5 hT5
          go_wp2
          go_roundw
          case rel =>
            refine ⟨k + 1, 1, by have := HKP.out; omega, ?_, rfl, by omega, fun h => absurd h (by omega), HLN2, ?_, bR6, bB6, hT6, hW6⟩
            · have := HKP.out
              first | rfl | (rw [show fr + (((k + 1 : Nat) : Int) - 1) = fr + p + 1 from by omega])
            · have h3 := HKP.out
              rw [show ((k + 1 : Nat) : Int) - 1 = p + 1 from by omega, ← HCN.out]
              exact HNEW.out
          case measure => simp [intOf]; omega
        · obtain ⟨p0, pN, psg⟩ := HIN3.out 2 rfl (by decide)
          have HSG := Lib.hid psg
          have t1 : ¬ fr + p < fr := by omega
          have t2 : ¬ T ≤ fr + p := by omega
          have t3 : ¬ (2 : Int) < La := by have := hLa1.out (by have := HKP.out; omega) (by omega); rw [HSG.out] at this; omega
          have e0 : w5.cell? ⟨gr + 1, 2, none⟩ = some (.int .i64 (Pl.cs b x p 2)) := bC5.cell 2
          have e1 := bC5.frozen 2
          obtain ⟨b1, b2⟩ := HBD.out 2
          have HNEW := Lib.hid (bC5.set_ 2 (.int .i64 (Pl.cs b x p 2 + 1)))
          have HCN := Lib.hid (cn_set (f := Pl.cs b x p) (f' := Pl.cs b x (p + 1)) (j := 2) (by omega) (fun i hi => HSTEP.out i hi) (v := Pl.cs b x p 2 + 1) rfl)
          have bR6 := bR5.far (p := ⟨gr + 1, 2, none⟩) (by simp) (.int .i64 (Pl.cs b x p 2 + 1))
          have bB6 := bB5.far (p := ⟨gr + 1, 2, none⟩) (by show w.heap.size ≠ gr + 1; omega) (.int .i64 (Pl.cs b x p 2 + 1))
          have hT6 : Hid (Bts (w5.setCell ⟨gr + 1, 2, none⟩ (.int .i64 (Pl.cs b x p 2 + 1))) (some ⟨gl, 0, none⟩) [b]) := Lib.hid (by
            rcases hT5.out with h | ⟨bb, oo, he, hbb, hcc⟩
            · cases h
            · cases he
              exact .inr ⟨gl, 0, rfl, by simpa using hbb, fun k hk j v hv => (World.cell?_of_block (a := ⟨gl, 0 + k * 7 + j, none⟩) (Below.heap_setCell w5 ⟨gr + 1, 2, none⟩ _ gl (by show gl ≠ gr + 1; omega))).trans (hcc k hk j v hv)⟩)
          have hW6 := hW5.setCell (p := ⟨gr + 1, 2, none⟩) (by show w.heap.size ≤ gr + 1; omega) (.int .i64 (Pl.cs b x p 2 + 1))
          have HLN2 : Hid (1 ≤ k + 1 → ((k + 1 : Nat) : Int) - 1 < N → (2 : Int) ≤ Pl.sg b x (((k + 1 : Nat) : Int) - 1)) := Lib.hid (fun _ h2 => by
            have h3 := HKP.out
            rw [show ((k + 1 : Nat) : Int) - 1 = p + 1 from by omega] at h2 ⊢
            have h4 := HMO3.out h2
            rw [HSG.out] at h4
            exact h4)
          generalize hcv : Pl.cs b x p 2 = cv at *
          have k1 : IntKind.i64.wrap (cv + 1) = cv + 1 := IntWalk.i64_in _ (by omega)
          have k2 : IntKind.i64.wrap (fr + p + 1) = fr + p + 1 := IntWalk.i64_in _ (by omega)
          have HCV := Lib.hid hcv
          clear psg hcv bC5 bR5 bB5 hW5 hT5
          go_wp2
          go_roundw
          case rel =>
            refine ⟨k + 1, 2, by have := HKP.out; omega, ?_, rfl, by omega, fun h => absurd h (by omega), HLN2, ?_, bR6, bB6, hT6, hW6⟩
            · have := HKP.out
              first | rfl | (rw [show fr + (((k + 1 : Nat) : Int) - 1) = fr + p + 1 from by omega])
            · have h3 := HKP.out
              rw [show ((k + 1 : Nat) : Int) - 1 = p + 1 from by omega, ← HCN.out]
              exact HNEW.out
          case measure => simp [intOf]; omega
        · obtain ⟨p0, pN, psg⟩ := HIN3.out 3 rfl (by decide)
          have HSG := Lib.hid psg
          have t1 : ¬ fr + p < fr := by omega
          have t2 : ¬ T ≤ fr + p := by omega
          have t3 : ¬ (3 : Int) < La := by have := hLa1.out (by have := HKP.out; omega) (by omega); rw [HSG.out] at this; omega
          have e0 : w5.cell? ⟨gr + 1, 3, none⟩ = some (.int .i64 (Pl.cs b x p 3)) := bC5.cell 3
          have e1 := bC5.frozen 3
          obtain ⟨b1, b2⟩ := HBD.out 3
          have HNEW := Lib.hid (bC5.set_ 3 (.int .i64 (Pl.cs b x p 3 + 1)))
          have HCN := Lib.hid (cn_set (f := Pl.cs b x p) (f' := Pl.cs b x (p + 1)) (j := 3) (by omega) (fun i hi => HSTEP.out i hi) (v := Pl.cs b x p 3 + 1) rfl)
          have bR6 := bR5.far (p := ⟨gr + 1, 3, none⟩) (by simp) (.int .i64 (Pl.cs b x p 3 + 1))
          have bB6 := bB5.far (p := ⟨gr + 1, 3, none⟩) (by show w.heap.size ≠ gr + 1; omega) (.int .i64 (Pl.cs b x p 3 + 1))
          have hT6 : Hid (Bts (w5.setCell ⟨gr + 1, 3, none⟩ (.int .i64 (Pl.cs b x p 3 + 1))) (some ⟨gl, 0, none⟩) [b]) := Lib.hid (by
            rcases hT5.out with h | ⟨bb, oo, he, hbb, hcc⟩
            · cases h
            · cases he
              exact .inr ⟨gl, 0, rfl, by simpa using hbb, fun k hk j v hv => (World.cell?_of_block (a := ⟨gl, 0 + k * 7 + j, none⟩) (Below.heap_setCell w5 ⟨gr + 1, 3, none⟩ _ gl (by show gl ≠ gr + 1; omega))).trans (hcc k hk j v hv)⟩)
          have hW6 := hW5.setCell (p := ⟨gr + 1, 3, none⟩) (by show w.heap.size ≤ gr + 1; omega) (.int .i64 (Pl.cs b x p 3 + 1))
          have HLN2 : Hid (1 ≤ k + 1 → ((k + 1 : Nat) : Int) - 1 < N → (3 : Int) ≤ Pl.sg b x (((k + 1 : Nat) : Int) - 1)) := Lib.hid (fun _ h2 => by
            have h3 := HKP.out
            rw [show ((k + 1 : Nat) : Int) - 1 = p + 1 from by omega] at h2 ⊢
            have h4 := HMO3.out h2
            rw [HSG.out] at h4
            exact h4)
          generalize hcv : Pl.cs b x p 3 = cv at *
          have k1 : IntKind.i64.wrap (cv + 1) = cv + 1 := IntWalk.i64_in _ (by omega)
          have k2 : IntKind.i64.wrap (fr + p + 1) = fr + p + 1 := IntWalk.i64_in _ (by omega)
          have HCV := Lib.hid hcv
          clear psg hcv bC5 bR5 bB5 hW5 hT5
          go_wp2
          go_roundw
          case rel =>
            refine ⟨k + 1, 3, by have := HKP.out; omega, ?_, rfl, by omega, fun h => absurd h (by omega), HLN2, ?_, bR6, bB6, hT6, hW6⟩
            · have := HKP.out
              first | rfl | (rw [show fr + (((k + 1 : Nat) : Int) - 1) = fr + p + 1 from by omega])
            · have h3 := HKP.out
              rw [show ((k + 1 : Nat) : Int) - 1 = p + 1 from by omega, ← HCN.out]
              exact HNEW.out
          case measure => simp [intOf]; omega
        · obtain ⟨p0, pN, psg⟩ := HIN3.out 4 rfl (by decide)
          have HSG := Lib.hid psg
          have t1 : ¬ fr + p < fr := by omega
          have t2 : ¬ T ≤ fr + p := by omega
          have t3 : ¬ (4 : Int) < La := by have := hLa1.out (by have := HKP.out; omega) (by omega); rw [HSG.out] at this; omega
          have e0 : w5.cell? ⟨gr + 1, 4, none⟩ = some (.int .i64 (Pl.cs b x p 4)) := bC5.cell 4
          have e1 := bC5.frozen 4
          obtain ⟨b1, b2⟩ := HBD.out 4
          have HNEW := Lib.hid (bC5.set_ 4 (.int .i64 (Pl.cs b x p 4 + 1)))
          have HCN := Lib.hid (cn_set (f := Pl.cs b x p) (f' := Pl.cs b x (p + 1)) (j := 4) (by omega) (fun i hi => HSTEP.out i hi) (v := Pl.cs b x p 4 + 1) rfl)
          have bR6 := bR5.far (p := ⟨gr + 1, 4, none⟩) (by simp) (.int .i64 (Pl.cs b x p 4 + 1))
          have bB6 := bB5.far (p := ⟨gr + 1, 4, none⟩) (by show w.heap.size ≠ gr + 1; omega) (.int .i64 (Pl.cs b x p 4 + 1))
          have hT6 : Hid (Bts (w5.setCell ⟨gr + 1, 4, none⟩ (.int .i64 (Pl.cs b x p 4 + 1))) (some ⟨gl, 0, none⟩) [b]) := Lib.hid (by
            rcases hT5.out with h | ⟨bb, oo, he, hbb, hcc⟩
            · cases h
            · cases he
              exact .inr ⟨gl, 0, rfl, by simpa using hbb, fun k hk j v hv => (World.cell?_of_block (a := ⟨gl, 0 + k * 7 + j, none⟩) (Below.heap_setCell w5 ⟨gr + 1, 4, none⟩ _ gl (by show gl ≠ gr + 1; omega))).trans (hcc k hk j v hv)⟩)
          have hW6 := hW5.setCell (p := ⟨gr + 1, 4, none⟩) (by show w.heap.size ≤ gr + 1; omega) (.int .i64 (Pl.cs b x p 4 + 1))
          have HLN2 : Hid (1 ≤ k + 1 → ((k + 1 : Nat) : Int) - 1 < N → (4 : Int) ≤ Pl.sg b x (((k + 1 : Nat) : Int) - 1)) := Lib.hid (fun _ h2 => by
            have h3 := HKP.out
            rw [show ((k + 1 : Nat) : Int) - 1 = p + 1 from by omega] at h2 ⊢
            have h4 := HMO3.out h2
            rw [HSG.out] at h4
            exact h4)
          generalize hcv : Pl.cs b x p 4 = cv at *
          have k1 : IntKind.i64.wrap (cv + 1) = cv + 1 := IntWalk.i64_in _ (by omega)
          have k2 : IntKind.i64.wrap (fr + p + 1) = fr + p + 1 := IntWalk.i64_in _ (by omega)
          have HCV := Lib.hid hcv
          clear psg hcv bC5 bR5 bB5 hW5 hT5
          go_wp2
          go_roundw
          case rel =>
            refine ⟨k + 1, 4, by have := HKP.out; omega, ?_, rfl, by omega, fun h => absurd h (by omega), HLN2, ?_, bR6, bB6, hT6, hW6⟩
            · have := HKP.out
              first | rfl | (rw [show fr + (((k + 1 : Nat) : Int) - 1) = fr + p + 1 from by omega])
            · have h3 := HKP.out
              rw [show ((k + 1 : Nat) : Int) - 1 = p + 1 from by omega, ← HCN.out]
              exact HNEW.out
          case measure => simp [intOf]; omega
        · have hpo := HOUT3.out rfl
          have e0 : w5.cell? ⟨gr + 1, 5, none⟩ = some (.int .i64 (Pl.cs b x p 5)) := bC5.cell 5
          have e1 := bC5.frozen 5
          obtain ⟨b1, b2⟩ := HBD.out 5
          have HNEW := Lib.hid (bC5.set_ 5 (.int .i64 (Pl.cs b x p 5 + 1)))
          have HCN := Lib.hid (cn_set (f := Pl.cs b x p) (f' := Pl.cs b x (p + 1)) (j := 5) (by omega) (fun i hi => HSTEP.out i hi) (v := Pl.cs b x p 5 + 1) rfl)
          have bR6 := bR5.far (p := ⟨gr + 1, 5, none⟩) (by simp) (.int .i64 (Pl.cs b x p 5 + 1))
          have bB6 := bB5.far (p := ⟨gr + 1, 5, none⟩) (by show w.heap.size ≠ gr + 1; omega) (.int .i64 (Pl.cs b x p 5 + 1))
          have hT6 : Hid (Bts (w5.setCell ⟨gr + 1, 5, none⟩ (.int .i64 (Pl.cs b x p 5 + 1))) (some ⟨gl, 0, none⟩) [b]) := Lib.hid (by
            rcases hT5.out with h | ⟨bb, oo, he, hbb, hcc⟩
            · cases h
            · cases he
              exact .inr ⟨gl, 0, rfl, by simpa using hbb, fun k hk j v hv => (World.cell?_of_block (a := ⟨gl, 0 + k * 7 + j, none⟩) (Below.heap_setCell w5 ⟨gr + 1, 5, none⟩ _ gl (by show gl ≠ gr + 1; omega))).trans (hcc k hk j v hv)⟩)
          have hW6 := hW5.setCell (p := ⟨gr + 1, 5, none⟩) (by show w.heap.size ≤ gr + 1; omega) (.int .i64 (Pl.cs b x p 5 + 1))
          have HLN2 : Hid (1 ≤ k + 1 → ((k + 1 : Nat) : Int) - 1 < N → La ≤ Pl.sg b x (((k + 1 : Nat) : Int) - 1)) := Lib.hid (fun _ h2 => by
            have h3 := HKP.out
            have h4 : k = 0 := by omega
            rw [hLa0 h4]
            exact HSB.out _)
          generalize hcv : Pl.cs b x p 5 = cv at *
          have k1 : IntKind.i64.wrap (cv + 1) = cv + 1 := IntWalk.i64_in _ (by omega)
          have k2 : IntKind.i64.wrap (fr + p + 1) = fr + p + 1 := IntWalk.i64_in _ (by omega)
          have HCV := Lib.hid hcv
          have hpo2 : fr + p < fr ∨ (¬ fr + p < fr ∧ T ≤ fr + p) := by omega
          clear hcv bC5 bR5 bB5 hW5 hT5 hpo hLa0
          rcases hpo2 with t1 | ⟨t1, t2⟩
          all_goals
            go_wp2
            go_roundw
            case rel =>
              refine ⟨k + 1, La, by have := HKP.out; omega, ?_, rfl, by omega, fun h => absurd h (by omega), HLN2, ?_, bR6, bB6, hT6, hW6⟩
              · have := HKP.out
                first | rfl | (rw [show fr + (((k + 1 : Nat) : Int) - 1) = fr + p + 1 from by omega])
              · have h3 := HKP.out
                rw [show ((k + 1 : Nat) : Int) - 1 = p + 1 from by omega, ← HCN.out]
                exact HNEW.out
            case measure => simp [intOf]; omega
      · obtain rfl : p = N + 1 := by omega
        obtain ⟨e0, e1, e2, e3, e4⟩ := HCE.out
        have HBC : Hid (Blk wo (gr + 1) 69 #[.int .i64 x, .int .i64 b.h0, .int .i64 b.h1, .int .i64 b.h2, .int .i64 b.h3, .int .i64 (Pl.cs b x (N + 1) 5)]) := Lib.hid (by rw [show cnA (Pl.cs b x (N + 1)) = #[.int .i64 x, .int .i64 b.h0, .int .i64 b.h1, .int .i64 b.h2, .int .i64 b.h3, .int .i64 (Pl.cs b x (N + 1) 5)] from by simp [e0, e1, e2, e3, e4]] at bC; exact bC)
        generalize Pl.cs b x (N + 1) 5 = y5 at *
        clear bC e0 e1 e2 e3 e4 hp hkp hLa1 hT bR
        go_wp2
        clear c2
        go_loopw [16] (fun i wr => ∃ k : Nat, k ≤ 4 ∧ i = .int .i64 k ∧ Blk wr (gr + 1) 69 #[.int .i64 x, .int .i64 b.h0, .int .i64 b.h1, .int .i64 b.h2, .int .i64 b.h3, .int .i64 y5] ∧ Blk wr w.heap.size 25 (btA b) ∧ Below w.heap.size w wr) (fun i _ => 4 - (intOf i).toNat)
        case atStart => exact ⟨0, by omega, rfl, HBC.out, bB, hW⟩
        case round =>
          clear HBC bB hW
          obtain ⟨k4, hk4, rfl, bC, bB, hW⟩ := hrel
          obtain ⟨w6, rfl⟩ : ∃ w6, w6 = wr := ⟨_, rfl⟩
          have hk5 : k4 = 0 ∨ k4 = 1 ∨ k4 = 2 ∨ k4 = 3 ∨ k4 = 4 := by omega
          rcases hk5 with rfl | rfl | rfl | rfl | rfl
          · have z0 := fun s : Ext w6 => s.cell ((bC.cell 1).trans rfl)
            have z1 := fun s : Ext w6 => s.cell ((bB.cell 3).trans rfl)
            go_wp2
            refine wp_region_ext (by kernel_rfl) (by kernel_rfl) ?_
            repeat (go_big_quiet_step (fail))
            refine wpQuiet_nil ?_
            rintro _ ⟨s, rfl⟩
            have bC7 := bC.below s.h bC.lt
            have bB7 := bB.below s.h bB.lt
            have hW7 := hW.trans (s.h.mono hW.size)
            clear z0 z1 bC bB hW
            go_wp2
            go_roundw
            case rel => exact ⟨1, by omega, by simp, bC7, bB7, hW7⟩
            case measure => simp [intOf]
          · have z0 := fun s : Ext w6 => s.cell ((bC.cell 2).trans rfl)
            have z1 := fun s : Ext w6 => s.cell ((bB.cell 4).trans rfl)
            go_wp2
            refine wp_region_ext (by kernel_rfl) (by kernel_rfl) ?_
            repeat (go_big_quiet_step (fail))
            refine wpQuiet_nil ?_
            rintro _ ⟨s, rfl⟩
            have bC7 := bC.below s.h bC.lt
            have bB7 := bB.below s.h bB.lt
            have hW7 := hW.trans (s.h.mono hW.size)
            clear z0 z1 bC bB hW
            go_wp2
            go_roundw
            case rel => exact ⟨2, by omega, by simp, bC7, bB7, hW7⟩
            case measure => simp [intOf]
          · have z0 := fun s : Ext w6 => s.cell ((bC.cell 3).trans rfl)
            have z1 := fun s : Ext w6 => s.cell ((bB.cell 5).trans rfl)
            go_wp2
            refine wp_region_ext (by kernel_rfl) (by kernel_rfl) ?_
            repeat (go_big_quiet_step (fail))
            refine wpQuiet_nil ?_
            rintro _ ⟨s, rfl⟩
            have bC7 := bC.below s.h bC.lt
            have bB7 := bB.below s.h bB.lt
            have hW7 := hW.trans (s.h.mono hW.size)
            clear z0 z1 bC bB hW
            go_wp2
            go_roundw
            case rel => exact ⟨3, by omega, by simp, bC7, bB7, hW7⟩
            case measure => simp [intOf]
          · have z0 := fun s : Ext w6 => s.cell ((bC.cell 4).trans rfl)
            have z1 := fun s : Ext w6 => s.cell ((bB.cell 6).trans rfl)
            go_wp2
            refine wp_region_ext (by kernel_rfl) (by kernel_rfl) ?_
            repeat (go_big_quiet_step (fail))
            refine wpQuiet_nil ?_
            rintro _ ⟨s, rfl⟩
            have bC7 := bC.below s.h bC.lt
            have bB7 := bB.below s.h bB.lt
            have hW7 := hW.trans (s.h.mono hW.size)
            clear z0 z1 bC bB hW
            go_wp2
            go_roundw
            case rel => exact ⟨4, by omega, by simp, bC7, bB7, hW7⟩
            case measure => simp [intOf]
          · have z0 := bC.cell 0
            have hx2 : x = 0 := HXV.out
            subst hx2
            clear bC bB
            by_cases hcl0 : cl = 0
            · subst hcl0
              go_wp2_with fail
              refine (HS.out _).mono ?_
              rintro e w7 ⟨rfl, hb7⟩
              go_wp2
              go_ret
              exact ⟨rfl, hW.trans (hb7.mono hW.size)⟩
            · have hne : ((0 : Int) == cl) = false := by simp; omega
              clear hcl0
              go_wp2_with fail
              refine (HS.out _).mono ?_
              rintro e w7 ⟨rfl, hb7⟩
              go_wp2
              go_ret
              exact ⟨rfl, hW.trans (hb7.mono hW.size)⟩
  · have hx : x = cl := HX.out
    have hT3 : fr + b.h0 + b.h1 + b.h2 + b.h3 + cl = T := by omega
    have HXV := Lib.hid hx
    clear hx
    have hBR := hB2.alloc hB2.size (.cells #[.int .i64 0, .int .i64 fr, .int .i64 (fr + b.h0 + b.h1 + b.h2 + b.h3 + cl), .bool true] 66)
    have bR : Blk _ gr 66 (rnA ⟨0, fr, T, true⟩) := (by have h := Blk.new w1 66 #[.int .i64 0, .int .i64 fr, .int .i64 (fr + b.h0 + b.h1 + b.h2 + b.h3 + cl), .bool true]; rw [hgr] at h; have e : (rnA ⟨0, fr, T, true⟩) = #[.int .i64 0, .int .i64 fr, .int .i64 (fr + b.h0 + b.h1 + b.h2 + b.h3 + cl), .bool true] := (by rw [hT3]); rw [e]; exact h)
    have bC : Blk _ (gr + 1) 69 (cnA (fun _ => 0)) := (by have h := Blk.new (w1.alloc (.cells #[.int .i64 0, .int .i64 fr, .int .i64 (fr + b.h0 + b.h1 + b.h2 + b.h3 + cl), .bool true] 66)) 69 (cnA (fun _ => 0)); simp only [World.size_alloc, hgr] at h; exact h)
    have hBC := hBR.alloc hBR.size (.cells (cnA (fun _ => 0)) 69)
    have bR2 := bR.alloc (.cells (cnA (fun _ => 0)) 69)
    have bB3 := (bB2.alloc (.cells #[.int .i64 0, .int .i64 fr, .int .i64 (fr + b.h0 + b.h1 + b.h2 + b.h3 + cl), .bool true] 66)).alloc (.cells (cnA (fun _ => 0)) 69)
    have HT3 := Lib.hid (HT1.out.below ((((Below.refl _ _).alloc (Nat.le_refl _) (.cells #[.int .i64 0, .int .i64 fr, .int .i64 (fr + b.h0 + b.h1 + b.h2 + b.h3 + cl), .bool true] 66))).alloc (by simp) (.cells (cnA (fun _ => 0)) 69)))
    have HTE := Lib.hid hT3
    have hgrl : gl < gr := by omega
    have hgrw : w.heap.size < gr := by rw [← hgr]; exact bB2.lt
    clear hT3 bR hBR
    go_wp2
    clear k1 k2 k3 k4 k5 q3 q4 q5 q6 bB2 hgr
    go_loopw [12, 13, 14, 15] (fun la hr _ _ wr => ∃ k : Nat, ∃ La : Int, (k : Int) ≤ N + 2 ∧ hr = .int .i64 (fr + ((k : Int) - 1)) ∧ la = .int .i64 La ∧ 0 ≤ La ∧ (k = 0 → La = 0) ∧ Hid (1 ≤ k → (k : Int) - 1 < N → La ≤ Pl.sg b x ((k : Int) - 1)) ∧ Blk wr (gr + 1) 69 (cnA (Pl.cs b x ((k : Int) - 1))) ∧ Blk wr gr 66 (rnA ⟨0, fr, T, true⟩) ∧ Blk wr w.heap.size 25 (btA b) ∧ Hid (Bts wr (some ⟨gl, 0, none⟩) [b]) ∧ Below w.heap.size w wr) (fun _ hr _ _ _ => (T + 1 - intOf hr).toNat)
    case atStart =>
      refine ⟨0, 0, by omega, by rw [show fr + (((0 : Nat) : Int) - 1) = fr - 1 from by omega], rfl, Int.le_refl _, fun _ => rfl, Lib.hid (fun h => absurd h (by omega)), ?_, bR2, bB3, HT3, hBC⟩
      have e : cnA (Pl.cs b x (((0 : Nat) : Int) - 1)) = cnA (fun _ => 0) := by
        rw [show (((0 : Nat) : Int) - 1) = -1 from by omega]
        simp [HCZ.out 0 (by omega), HCZ.out 1 (by omega), HCZ.out 2 (by omega), HCZ.out 3 (by omega), HCZ.out 4 (by omega), HCZ.out 5 (by omega)]
      rw [e]
      exact bC
    case round =>
      clear bC bR2 bB3 HT3 hBC
      obtain ⟨k, La, hk, rfl, rfl, hLa, hLa0, hLa1, bC, bR, bB, hT, hW⟩ := hrel
      obtain ⟨wo, rfl⟩ : ∃ wo, wo = wr := ⟨_, rfl⟩
      obtain ⟨p, hp⟩ : ∃ p, (k : Int) - 1 = p := ⟨_, rfl⟩
      have hkp : (k : Int) = p + 1 := by omega
      have hp0 : -1 ≤ p := by omega
      have HKP := Lib.hid hkp
      rw [hp] at hLa1 bC
      rw [hp]
      have c2 := bR.cell 2
      by_cases hlt : fr + p ≤ T
      · have HSQ := Lib.hid (HST.out (fr + p) wo _ hT.out)
        rw [show fr + p - fr = p from by omega] at HSQ
        have hrr : wo.rangeAt gr 0 (rnL ⟨0, fr, T, true⟩) := bR.range
        have HSTEP := Lib.hid (HCS.out p hp0)
        have HBD := Lib.hid (HCB.out p (by omega))
        have HIN3 := Lib.hid (HIN2.out p)
        have HOUT3 := Lib.hid (HOUT2.out p)
        have HMO3 := Lib.hid (HMO.out p)
        have hvc := Pl.sgV_cases b x p
        generalize Pl.sgV b x p = V at *
        have HVC := Lib.hid hvc
        clear hvc hp hkp
        go_wp2_with (refine ldm_rn hrr rfl _ rfl rfl ?_)
        refine (HSQ.out).mono ?_
        rintro e w5 ⟨rfl, hb5⟩
        have bC5 := bC.below hb5 bC.lt
        have bR5 := bR.below hb5 bR.lt
        have bB5 := bB.below hb5 bB.lt
        have hT5 := Lib.hid (hT.out.below hb5)
        have hW5 := hW.trans (hb5.mono hW.size)
        have d2 := bR5.cell 2
        clear hb5 bC bR bB hW hrr HSQ c2
        rcases HVC.out with rfl | rfl | rfl | rfl | rfl | rfl
        · obtain ⟨p0, pN, psg⟩ := HIN3.out 0 rfl (by decide)
          have HSG := Lib.hid psg
          have t1 : ¬ fr + p < fr := by omega
          have t2 : ¬ T ≤ fr + p := by omega
          have t3 : ¬ (0 : Int) < La := by have := hLa1.out (by have := HKP.out; omega) (by omega); rw [HSG.out] at this; omega
          have e0 : w5.cell? ⟨gr + 1, 0, none⟩ = some (.int .i64 (Pl.cs b x p 0)) := bC5.cell 0
          have e1 := bC5.frozen 0
          obtain ⟨b1, b2⟩ := HBD.out 0
          have HNEW := Lib.hid (bC5.set_ 0 (.int .i64 (Pl.cs b x p 0 + 1)))
          have HCN := Lib.hid (cn_set (f := Pl.cs b x p) (f' := Pl.cs b x (p + 1)) (j := 0) (by omega) (fun i hi => HSTEP.out i hi) (v := Pl.cs b x p 0 + 1) rfl)
          have bR6 := bR5.far (p := ⟨gr + 1, 0, none⟩) (by simp) (.int .i64 (Pl.cs b x p 0 + 1))
          have bB6 := bB5.far (p := ⟨gr + 1, 0, none⟩) (by show w.heap.size ≠ gr + 1; omega) (.int .i64 (Pl.cs b x p 0 + 1))
          have hT6 : Hid (Bts (w5.setCell ⟨gr + 1, 0, none⟩ (.int .i64 (Pl.cs b x p 0 + 1))) (some ⟨gl, 0, none⟩) [b]) := Lib.hid (by
            rcases hT5.out with h | ⟨bb, oo, he, hbb, hcc⟩
            · cases h
            · cases he
              exact .inr ⟨gl, 0, rfl, by simpa using hbb, fun k hk j v hv => (World.cell?_of_block (a := ⟨gl, 0 + k * 7 + j, none⟩) (Below.heap_setCell w5 ⟨gr + 1, 0, none⟩ _ gl (by show gl ≠ gr + 1; omega))).trans (hcc k hk j v hv)⟩)
          have hW6 := hW5.setCell (p := ⟨gr + 1, 0, none⟩) (by show w.heap.size ≤ gr + 1; omega) (.int .i64 (Pl.cs b x p 0 + 1))
          have HLN2 : Hid (1 ≤ k + 1 → ((k + 1 : Nat) : Int) - 1 < N → (0 : Int) ≤ Pl.sg b x (((k + 1 : Nat) : Int) - 1)) := Lib.hid (fun _ h2 => by
            have h3 := HKP.out
            rw [show ((k + 1 : Nat) : Int) - 1 = p + 1 from by omega] at h2 ⊢
            have h4 := HMO3.out h2
            rw [HSG.out] at h4
            exact h4)
          generalize hcv : Pl.cs b x p 0 = cv at *
          have k1 : IntKind.i64.wrap (cv + 1) = cv + 1 := IntWalk.i64_in _ (by omega)
          have k2 : IntKind.i64.wrap (fr + p + 1) = fr + p + 1 := IntWalk.i64_in _ (by omega)
          have HCV := Lib.hid hcv
          clear psg hcv bC5 bR5 bB5 hW5 hT5
          go_wp2
          go_roundw
          case rel =>
            refine ⟨k + 1, 0, by have := HKP.out; omega, ?_, rfl, by omega, fun h => absurd h (by omega), HLN2, ?_, bR6, bB6, hT6, hW6⟩
            · have := HKP.out
              first | rfl | (rw [show fr + (((k + 1 : Nat) : Int) - 1) = fr + p + 1 from by omega])
            · have h3 := HKP.out
              rw [show ((k + 1 : Nat) : Int) - 1 = p + 1 from by omega, ← HCN.out]
              exact HNEW.out
          case measure => simp [intOf]; omega
        · obtain ⟨p0, pN, psg⟩ := HIN3.out 1 rfl (by decide)
          have HSG := Lib.hid psg
          have t1 : ¬ fr + p < fr := by omega
          have t2 : ¬ T ≤ fr + p := by omega
          have t3 : ¬ (1 : Int) < La := by have := hLa1.out (by have := HKP.out; omega) (by omega); rw [HSG.out] at this; omega
          have e0 : w5.cell? ⟨gr + 1, 1, none⟩ = some (.int .i64 (Pl.cs b x p 1)) := bC5.cell 1
          have e1 := bC5.frozen 1
          obtain ⟨b1, b2⟩ := HBD.out 1
          have HNEW := Lib.hid (bC5.set_ 1 (.int .i64 (Pl.cs b x p 1 + 1)))
          have HCN := Lib.hid (cn_set (f := Pl.cs b x p) (f' := Pl.cs b x (p + 1)) (j := 1) (by omega) (fun i hi => HSTEP.out i hi) (v := Pl.cs b x p 1 + 1) rfl)
          have bR6 := bR5.far (p := ⟨gr + 1, 1, none⟩) (by simp) (.int .i64 (Pl.cs b x p 1 + 1))
          have bB6 := bB5.far (p := ⟨gr + 1, 1, none⟩) (by show w.heap.size ≠ gr + 1; omega) (.int .i64 (Pl.cs b x p 1 + 1))
          have hT6 : Hid (Bts (w5.setCell ⟨gr + 1, 1, none⟩ (.int .i64 (Pl.cs b x p 1 + 1))) (some ⟨gl, 0, none⟩) [b]) := Lib.hid (by
            rcases hT5.out with h | ⟨bb, oo, he, hbb, hcc⟩
            · cases h
            · cases he
              exact .inr ⟨gl, 0, rfl, by simpa using hbb, fun k hk j v hv => (World.cell?_of_block (a := ⟨gl, 0 + k * 7 + j, none⟩) (Below.heap_setCell w5 ⟨gr + 1, 1, none⟩ _ gl (by show gl ≠ gr + 1; omega))).trans (hcc k hk j v hv)⟩)
          have hW6 := hW5.setCell (p := ⟨gr + 1, 1, none⟩) (by show w.heap.size ≤ gr + 1; omega) (.int .i64 (Pl.cs b x p 1 + 1))
          have HLN2 : Hid (1 ≤ k + 1 → ((k + 1 : Nat) : Int) - 1 < N → (1 : Int) ≤ Pl.sg b x (((k + 1 : Nat) : Int) - 1)) := Lib.hid (fun _ h2 => by
            have h3 := HKP.out
            rw [show ((k + 1 : Nat) : Int) - 1 = p + 1 from by omega] at h2 ⊢
            have h4 := HMO3.out h2
            rw [HSG.out] at h4
            exact h4)
          generalize hcv : Pl.cs b x p 1 = cv at *
          have k1 : IntKind.i64.wrap (cv + 1) = cv + 1 := IntWalk.i64_in _ (by omega)
          have k2 : IntKind.i64.wrap (fr + p + 1) = fr + p + 1 := IntWalk.i64_in _ (by omega)
          have HCV := Lib.hid hcv
          clear psg hcv bC5 bR5 bB5 hW5 hT5
          go_wp2
          go_roundw
          case rel =>
            refine ⟨k + 1, 1, by have := HKP.out; omega, ?_, rfl, by omega, fun h => absurd h (by omega), HLN2, ?_, bR6, bB6, hT6, hW6⟩
            · have := HKP.out
              first | rfl | (rw [show fr + (((k + 1 : Nat) : Int) - 1) = fr + p + 1 from by omega])
            · have h3 := HKP.out
              rw [show ((k + 1 : Nat) : Int) - 1 = p + 1 from by omega, ← HCN.out]
              exact HNEW.out
          case measure => simp [intOf]; omega
        · obtain ⟨p0, pN, psg⟩ := HIN3.out 2 rfl (by decide)
          have HSG := Lib.hid psg
          have t1 : ¬ fr + p < fr := by omega
          have t2 : ¬ T ≤ fr + p := by omega
          have t3 : ¬ (2 : Int) < La := by have := hLa1.out (by have := HKP.out; omega) (by omega); rw [HSG.out] at this; omega
          have e0 : w5.cell? ⟨gr + 1, 2, none⟩ = some (.int .i64 (Pl.cs b x p 2)) := bC5.cell 2
          have e1 := bC5.frozen 2
          obtain ⟨b1, b2⟩ := HBD.out 2
          have HNEW := Lib.hid (bC5.set_ 2 (.int .i64 (Pl.cs b x p 2 + 1)))
          have HCN := Lib.hid (cn_set (f := Pl.cs b x p) (f' := Pl.cs b x (p + 1)) (j := 2) (by omega) (fun i hi => HSTEP.out i hi) (v := Pl.cs b x p 2 + 1) rfl)
          have bR6 := bR5.far (p := ⟨gr + 1, 2, none⟩) (by simp) (.int .i64 (Pl.cs b x p 2 + 1))
          have bB6 := bB5.far (p := ⟨gr + 1, 2, none⟩) (by show w.heap.size ≠ gr + 1; omega) (.int .i64 (Pl.cs b x p 2 + 1))
          have hT6 : Hid (Bts (w5.setCell ⟨gr + 1, 2, none⟩ (.int .i64 (Pl.cs b x p 2 + 1))) (some ⟨gl, 0, none⟩) [b]) := Lib.hid (by
            rcases hT5.out with h | ⟨bb, oo, he, hbb, hcc⟩
            · cases h
            · cases he
              exact .inr ⟨gl, 0, rfl, by simpa using hbb, fun k hk j v hv => (World.cell?_of_block (a := ⟨gl, 0 + k * 7 + j, none⟩) (Below.heap_setCell w5 ⟨gr + 1, 2, none⟩ _ gl (by show gl ≠ gr + 1; omega))).trans (hcc k hk j v hv)⟩)
          have hW6 := hW5.setCell (p := ⟨gr + 1, 2, none⟩) (by show w.heap.size ≤ gr + 1; omega) (.int .i64 (Pl.cs b x p 2 + 1))
          have HLN2 : Hid (1 ≤ k + 1 → ((k + 1 : Nat) : Int) - 1 < N → (2 : Int) ≤ Pl.sg b x (((k + 1 : Nat) : Int) - 1)) := Lib.hid (fun _ h2 => by
            have h3 := HKP.out
            rw [show ((k + 1 : Nat) : Int) - 1 = p + 1 from by omega] at h2 ⊢
            have h4 := HMO3.out h2
            rw [HSG.out] at h4
            exact h4)
          generalize hcv : Pl.cs b x p 2 = cv at *
          have k1 : IntKind.i64.wrap (cv + 1) = cv + 1 := IntWalk.i64_in _ (by omega)
          have k2 : IntKind.i64.wrap (fr + p + 1) = fr + p + 1 := IntWalk.i64_in _ (by omega)
          have HCV := Lib.hid hcv
          clear psg hcv bC5 bR5 bB5 hW5 hT5
          go_wp2
          go_roundw
          case rel =>
            refine ⟨k + 1, 2, by have := HKP.out; omega, ?_, rfl, by omega, fun h => absurd h (by omega), HLN2, ?_, bR6, bB6, hT6, hW6⟩
            · have := HKP.out
              first | rfl | (rw [show fr + (((k + 1 : Nat) : Int) - 1) = fr + p + 1 from by omega])
            · have h3 := HKP.out
              rw [show ((k + 1 : Nat) : Int) - 1 = p + 1 from by omega, ← HCN.out]
              exact HNEW.out
          case measure => simp [intOf]; omega
        · obtain ⟨p0, pN, psg⟩ := HIN3.out 3 rfl (by decide)
          have HSG := Lib.hid psg
          have t1 : ¬ fr + p < fr := by omega
          have t2 : ¬ T ≤ fr + p := by omega
          have t3 : ¬ (3 : Int) < La := by have := hLa1.out (by have := HKP.out; omega) (by omega); rw [HSG.out] at this; omega
          have e0 : w5.cell? ⟨gr + 1, 3, none⟩ = some (.int .i64 (Pl.cs b x p 3)) := bC5.cell 3
          have e1 := bC5.frozen 3
          obtain ⟨b1, b2⟩ := HBD.out 3
          have HNEW := Lib.hid (bC5.set_ 3 (.int .i64 (Pl.cs b x p 3 + 1)))
          have HCN := Lib.hid (cn_set (f := Pl.cs b x p) (f' := Pl.cs b x (p + 1)) (j := 3) (by omega) (fun i hi => HSTEP.out i hi) (v := Pl.cs b x p 3 + 1) rfl)
          have bR6 := bR5.far (p := ⟨gr + 1, 3, none⟩) (by simp) (.int .i64 (Pl.cs b x p 3 + 1))
          have bB6 := bB5.far (p := ⟨gr + 1, 3, none⟩) (by show w.heap.size ≠ gr + 1; omega) (.int .i64 (Pl.cs b x p 3 + 1))
          have hT6 : Hid (Bts (w5.setCell ⟨gr + 1, 3, none⟩ (.int .i64 (Pl.cs b x p 3 + 1))) (some ⟨gl, 0, none⟩) [b]) := Lib.hid (by
            rcases hT5.out with h | ⟨bb, oo, he, hbb, hcc⟩
            · cases h
            · cases he
              exact .inr ⟨gl, 0, rfl, by simpa using hbb, fun k hk j v hv => (World.cell?_of_block (a := ⟨gl, 0 + k * 7 + j, none⟩) (Below.heap_setCell w5 ⟨gr + 1, 3, none⟩ _ gl (by show gl ≠ gr + 1; omega))).trans (hcc k hk j v hv)⟩)
          have hW6 := hW5.setCell (p := ⟨gr + 1, 3, none⟩) (by show w.heap.size ≤ gr + 1; omega) (.int .i64 (Pl.cs b x p 3 + 1))
          have HLN2 : Hid (1 ≤ k + 1 → ((k + 1 : Nat) : Int) - 1 < N → (3 : Int) ≤ Pl.sg b x (((k + 1 : Nat) : Int) - 1)) := Lib.hid (fun _ h2 => by
            have h3 := HKP.out
            rw [show ((k + 1 : Nat) : Int) - 1 = p + 1 from by omega] at h2 ⊢
            have h4 := HMO3.out h2
            rw [HSG.out] at h4
            exact h4)
          generalize hcv : Pl.cs b x p 3 = cv at *
          have k1 : IntKind.i64.wrap (cv + 1) = cv + 1 := IntWalk.i64_in _ (by omega)
          have k2 : IntKind.i64.wrap (fr + p + 1) = fr + p + 1 := IntWalk.i64_in _ (by omega)
          have HCV := Lib.hid hcv
          clear psg hcv bC5 bR5 bB5 hW5 hT5
          go_wp2
          go_roundw
          case rel =>
            refine ⟨k + 1, 3, by have := HKP.out; omega, ?_, rfl, by omega, fun h => absurd h (by omega), HLN2, ?_, bR6, bB6, hT6, hW6⟩
            · have := HKP.out
              first | rfl | (rw [show fr + (((k + 1 : Nat) : Int) - 1) = fr + p + 1 from by omega])
            · have h3 := HKP.out
              rw [show ((k + 1 : Nat) : Int) - 1 = p + 1 from by omega, ← HCN.out]
              exact HNEW.out
          case measure => simp [intOf]; omega
        · obtain ⟨p0, pN, psg⟩ := HIN3.out 4 rfl (by decide)
          have HSG := Lib.hid psg
          have t1 : ¬ fr + p < fr := by omega
          have t2 : ¬ T ≤ fr + p := by omega
          have t3 : ¬ (4 : Int) < La := by have := hLa1.out (by have := HKP.out; omega) (by omega); rw [HSG.out] at this; omega
          have e0 : w5.cell? ⟨gr + 1, 4, none⟩ = some (.int .i64 (Pl.cs b x p 4)) := bC5.cell 4
          have e1 := bC5.frozen 4
          obtain ⟨b1, b2⟩ := HBD.out 4
          have HNEW := Lib.hid (bC5.set_ 4 (.int .i64 (Pl.cs b x p 4 + 1)))
          have HCN := Lib.hid (cn_set (f := Pl.cs b x p) (f' := Pl.cs b x (p + 1)) (j := 4) (by omega) (fun i hi => HSTEP.out i hi) (v := Pl.cs b x p 4 + 1) rfl)
          have bR6 := bR5.far (p := ⟨gr + 1, 4, none⟩) (by simp) (.int .i64 (Pl.cs b x p 4 + 1))
          have bB6 := bB5.far (p := ⟨gr + 1, 4, none⟩) (by show w.heap.size ≠ gr + 1; omega) (.int .i64 (Pl.cs b x p 4 + 1))
          have hT6 : Hid (Bts (w5.setCell ⟨gr + 1, 4, none⟩ (.int .i64 (Pl.cs b x p 4 + 1))) (some ⟨gl, 0, none⟩) [b]) := Lib.hid (by
            rcases hT5.out with h | ⟨bb, oo, he, hbb, hcc⟩
            · cases h
            · cases he
              exact .inr ⟨gl, 0, rfl, by simpa using hbb, fun k hk j v hv => (World.cell?_of_block (a := ⟨gl, 0 + k * 7 + j, none⟩) (Below.heap_setCell w5 ⟨gr + 1, 4, none⟩ _ gl (by show gl ≠ gr + 1; omega))).trans (hcc k hk j v hv)⟩)
          have hW6 := hW5.setCell (p := ⟨gr + 1, 4, none⟩) (by show w.heap.size ≤ gr + 1; omega) (.int .i64 (Pl.cs b x p 4 + 1))
          have HLN2 : Hid (1 ≤ k + 1 → ((k + 1 : Nat) : Int) - 1 < N → (4 : Int) ≤ Pl.sg b x (((k + 1 : Nat) : Int) - 1)) := Lib.hid (fun _ h2 => by
            have h3 := HKP.out
            rw [show ((k + 1 : Nat) : Int) - 1 = p + 1 from by omega] at h2 ⊢
            have h4 := HMO3.out h2
            rw [HSG.out] at h4
            exact h4)
          generalize hcv : Pl.cs b x p 4 = cv at *
          have k1 : IntKind.i64.wrap (cv + 1) = cv + 1 := IntWalk.i64_in _ (by omega)
          have k2 : IntKind.i64.wrap (fr + p + 1) = fr + p + 1 := IntWalk.i64_in _ (by omega)
          have HCV := Lib.hid hcv
          clear psg hcv bC5 bR5 bB5 hW5 hT5
          go_wp2
          go_roundw
          case rel =>
            refine ⟨k + 1, 4, by have := HKP.out; omega, ?_, rfl, by omega, fun h => absurd h (by omega), HLN2, ?_, bR6, bB6, hT6, hW6⟩
            · have := HKP.out
              first | rfl | (rw [show fr + (((k + 1 : Nat) : Int) - 1) = fr + p + 1 from by omega])
            · have h3 := HKP.out
              rw [show ((k + 1 : Nat) : Int) - 1 = p + 1 from by omega, ← HCN.out]
              exact HNEW.out
          case measure => simp [intOf]; omega
        · have hpo := HOUT3.out rfl
          have e0 : w5.cell? ⟨gr + 1, 5, none⟩ = some (.int .i64 (Pl.cs b x p 5)) := bC5.cell 5
          have e1 := bC5.frozen 5
          obtain ⟨b1, b2⟩ := HBD.out 5
          have HNEW := Lib.hid (bC5.set_ 5 (.int .i64 (Pl.cs b x p 5 + 1)))
          have HCN := Lib.hid (cn_set (f := Pl.cs b x p) (f' := Pl.cs b x (p + 1)) (j := 5) (by omega) (fun i hi => HSTEP.out i hi) (v := Pl.cs b x p 5 + 1) rfl)
          have bR6 := bR5.far (p := ⟨gr + 1, 5, none⟩) (by simp) (.int .i64 (Pl.cs b x p 5 + 1))
          have bB6 := bB5.far (p := ⟨gr + 1, 5, none⟩) (by show w.heap.size ≠ gr + 1; omega) (.int .i64 (Pl.cs b x p 5 + 1))
          have hT6 : Hid (Bts (w5.setCell ⟨gr + 1, 5, none⟩ (.int .i64 (Pl.cs b x p 5 + 1))) (some ⟨gl, 0, none⟩) [b]) := Lib.hid (by
            rcases hT5.out with h | ⟨bb, oo, he, hbb, hcc⟩
            · cases h
            · cases he
              exact .inr ⟨gl, 0, rfl, by simpa using hbb, fun k hk j v hv => (World.cell?_of_block (a := ⟨gl, 0 + k * 7 + j, none⟩) (Below.heap_setCell w5 ⟨gr + 1, 5, none⟩ _ gl (by show gl ≠ gr + 1; omega))).trans (hcc k hk j v hv)⟩)
          have hW6 := hW5.setCell (p := ⟨gr + 1, 5, none⟩) (by show w.heap.size ≤ gr + 1; omega) (.int .i64 (Pl.cs b x p 5 + 1))
          have HLN2 : Hid (1 ≤ k + 1 → ((k + 1 : Nat) : Int) - 1 < N → La ≤ Pl.sg b x (((k + 1 : Nat) : Int) - 1)) := Lib.hid (fun _ h2 => by
            have h3 := HKP.out
            have h4 : k = 0 := by omega
            rw [hLa0 h4]
            exact HSB.out _)
          generalize hcv : Pl.cs b x p 5 = cv at *
          have k1 : IntKind.i64.wrap (cv + 1) = cv + 1 := IntWalk.i64_in _ (by omega)
          have k2 : IntKind.i64.wrap (fr + p + 1) = fr + p + 1 := IntWalk.i64_in _ (by omega)
          have HCV := Lib.hid hcv
          have hpo2 : fr + p < fr ∨ (¬ fr + p < fr ∧ T ≤ fr + p) := by omega
          clear hcv bC5 bR5 bB5 hW5 hT5 hpo hLa0
          rcases hpo2 with t1 | ⟨t1, t2⟩
          all_goals
            go_wp2
            go_roundw
            case rel =>
              refine ⟨k + 1, La, by have := HKP.out; omega, ?_, rfl, by omega, fun h => absurd h (by omega), HLN2, ?_, bR6, bB6, hT6, hW6⟩
              · have := HKP.out
                first | rfl | (rw [show fr + (((k + 1 : Nat) : Int) - 1) = fr + p + 1 from by omega])
              · have h3 := HKP.out
                rw [show ((k + 1 : Nat) : Int) - 1 = p + 1 from by omega, ← HCN.out]
                exact HNEW.out
            case measure => simp [intOf]; omega
      · obtain rfl : p = N + 1 := by omega
        obtain ⟨e0, e1, e2, e3, e4⟩ := HCE.out
        have HBC : Hid (Blk wo (gr + 1) 69 #[.int .i64 x, .int .i64 b.h0, .int .i64 b.h1, .int .i64 b.h2, .int .i64 b.h3, .int .i64 (Pl.cs b x (N + 1) 5)]) := Lib.hid (by rw [show cnA (Pl.cs b x (N + 1)) = #[.int .i64 x, .int .i64 b.h0, .int .i64 b.h1, .int .i64 b.h2, .int .i64 b.h3, .int .i64 (Pl.cs b x (N + 1) 5)] from by simp [e0, e1, e2, e3, e4]] at bC; exact bC)
        generalize Pl.cs b x (N + 1) 5 = y5 at *
        clear bC e0 e1 e2 e3 e4 hp hkp hLa1 hT bR
        go_wp2
        clear c2
        go_loopw [16] (fun i wr => ∃ k : Nat, k ≤ 4 ∧ i = .int .i64 k ∧ Blk wr (gr + 1) 69 #[.int .i64 x, .int .i64 b.h0, .int .i64 b.h1, .int .i64 b.h2, .int .i64 b.h3, .int .i64 y5] ∧ Blk wr w.heap.size 25 (btA b) ∧ Below w.heap.size w wr) (fun i _ => 4 - (intOf i).toNat)
        case atStart => exact ⟨0, by omega, rfl, HBC.out, bB, hW⟩
        case round =>
          clear HBC bB hW
          obtain ⟨k4, hk4, rfl, bC, bB, hW⟩ := hrel
          obtain ⟨w6, rfl⟩ : ∃ w6, w6 = wr := ⟨_, rfl⟩
          have hk5 : k4 = 0 ∨ k4 = 1 ∨ k4 = 2 ∨ k4 = 3 ∨ k4 = 4 := by omega
          rcases hk5 with rfl | rfl | rfl | rfl | rfl
          · have z0 := fun s : Ext w6 => s.cell ((bC.cell 1).trans rfl)
            have z1 := fun s : Ext w6 => s.cell ((bB.cell 3).trans rfl)
            go_wp2
            refine wp_region_ext (by kernel_rfl) (by kernel_rfl) ?_
            repeat (go_big_quiet_step (fail))
            refine wpQuiet_nil ?_
            rintro _ ⟨s, rfl⟩
            have bC7 := bC.below s.h bC.lt
            have bB7 := bB.below s.h bB.lt
            have hW7 := hW.trans (s.h.mono hW.size)
            clear z0 z1 bC bB hW
            go_wp2
            go_roundw
            case rel => exact ⟨1, by omega, by simp, bC7, bB7, hW7⟩
            case measure => simp [intOf]
          · have z0 := fun s : Ext w6 => s.cell ((bC.cell 2).trans rfl)
            have z1 := fun s : Ext w6 => s.cell ((bB.cell 4).trans rfl)
            go_wp2
            refine wp_region_ext (by kernel_rfl) (by kernel_rfl) ?_
            repeat (go_big_quiet_step (fail))
            refine wpQuiet_nil ?_
            rintro _ ⟨s, rfl⟩
            have bC7 := bC.below s.h bC.lt
            have bB7 := bB.below s.h bB.lt
            have hW7 := hW.trans (s.h.mono hW.size)
            clear z0 z1 bC bB hW
            go_wp2
            go_roundw
            case rel => exact ⟨2, by omega, by simp, bC7, bB7, hW7⟩
            case measure => simp [intOf]
          · have z0 := fun s : Ext w6 => s.cell ((bC.cell 3).trans rfl)
            have z1 := fun s : Ext w6 => s.cell ((bB.cell 5).trans rfl)
            go_wp2
            refine wp_region_ext (by kernel_rfl) (by kernel_rfl) ?_
            repeat (go_big_quiet_step (fail))
            refine wpQuiet_nil ?_
            rintro _ ⟨s, rfl⟩
            have bC7 := bC.below s.h bC.lt
            have bB7 := bB.below s.h bB.lt
            have hW7 := hW.trans (s.h.mono hW.size)
            clear z0 z1 bC bB hW
            go_wp2
            go_roundw
            case rel => exact ⟨3, by omega, by simp, bC7, bB7, hW7⟩
            case measure => simp [intOf]
          · have z0 := fun s : Ext w6 => s.cell ((bC.cell 4).trans rfl)
            have z1 := fun s : Ext w6 => s.cell ((bB.cell 6).trans rfl)
            go_wp2
            refine wp_region_ext (by kernel_rfl) (by kernel_rfl) ?_
            repeat (go_big_quiet_step (fail))
            refine wpQuiet_nil ?_
            rintro _ ⟨s, rfl⟩
            have bC7 := bC.below s.h bC.lt
            have bB7 := bB.below s.h bB.lt
            have hW7 := hW.trans (s.h.mono hW.size)
            clear z0 z1 bC bB hW
            go_wp2
            go_roundw
            case rel => exact ⟨4, by omega, by simp, bC7, bB7, hW7⟩
            case measure => simp [intOf]
          · have z0 := bC.cell 0
            have hx2 : x = cl := HXV.out
            subst hx2
            clear bC bB
            go_wp2_with fail
            refine (HS.out _).mono ?_
            rintro e w7 ⟨rfl, hb7⟩
            go_wp2
            go_ret
            exact ⟨rfl, hW.trans (hb7.mono hW.size)⟩
end Go.Proofs.Ytlfbfdhdkccaeaa
