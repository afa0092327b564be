/- The document's walk around some places. -/
import Derived.Test.YtflkhjicgojcbaaV2
namespace Go.Proofs.Ytflkhjicgojcbaa
open Go.RowKit Go.Shelf

set_option maxRecDepth 100000 in
set_option maxHeartbeats 4000000 in
theorem wrap_gen (b off c : Nat) (l q : List Geo.XY) (h0 : 0 < l.length) (hl : l.length ≤ 5000) (hw : ∀ p, p ∈ l → Wid p) (hq3 : 1 ≤ q.length) (hq : q.length ≤ 200) (hm : ∀ p, p ∈ q → p ∈ l)
    (hpick : ∀ i, i < q.length → Geo.pickK l (Geo.X q i) l.length = Geo.At q (i + 1)) (hfirst : Geo.X (Geo.canon l) 0 = Geo.X q 0) (hdf : ∀ i, 0 < i → i < q.length → Geo.X q i ≠ Geo.X q 0) (hst : ∀ i, i + 1 < q.length → Geo.At q (i + 1) ≠ Geo.X q i)
    (w : World) (hb : b < w.heap.size)
    (hc : ∀ k, k < l.length → w.cell? ⟨b, off + k * 2, none⟩ = some (.int .i64 (Geo.X l k).1) ∧ w.cell? ⟨b, off + k * 2 + 1, none⟩ = some (.int .i64 (Geo.X l k).2)) :
    Calls Try.prog 90 #[.slice (some ⟨b, off, none⟩) l.length c] w fun e w' => ∃ v, e = .returned v ∧ w'.ownsRow w.heap.size 38 2 v q.length (flat q) ∧ Below w.heap.size w w' := by
  have HC := Lib.hid hc
  have HWd := Lib.hid hw
  have HM := Lib.hid hm
  have HPK := Lib.hid hpick
  have HDF := Lib.hid hdf
  have HST := Lib.hid hst
  have HFI := Lib.hid hfirst
  have HCL : Hid ((Geo.canon l).length = l.length) := Lib.hid (Geo.canon_length l)
  clear hc hw hm hpick hdf hst hfirst
  obtain ⟨i0, hi, hz0, hz1, hz2⟩ := info_parts info38'
  go_enter Try.func90, Try.ntmps90
  go_wp2_with fail
  refine (turnlist_big b off c l h0 hl w hb HC.out).mono ?_
  rintro e w1 ⟨v, rfl, hown, hb1⟩
  obtain ⟨g1, k1, rfl⟩ := owns_addr hown (by rw [HCL.out]; exact h0)
  obtain ⟨_, _, he, hp1, hk1⟩ := pts_of_owns' hown
  cases he
  obtain ⟨_, _, he, _, hc1⟩ := pts_open hp1 (by rw [HCL.out]; exact h0)
  cases he
  have d1 := (hc1 0 (by rw [HCL.out]; exact h0)).1
  have d2 := (hc1 0 (by rw [HCL.out]; exact h0)).2
  simp only [Nat.zero_mul, Nat.add_zero, Nat.zero_add] at d1 d2
  rw [HFI.out] at d1 d2
  rw [HCL.out]
  clear hc1 hp1 hown hk1
  have g6 : (0 : Int) < (l.length : Int) := by omega
  generalize hx0 : Geo.X q 0 = q0 at d1 d2
  have HX0 := Lib.hid hx0
  clear hx0
  go_wp2
  have bF := ((Blk.new w1 38 #[.int .i64 q0.1, .int .i64 q0.2]).alloc (.cells #[.int .i64 q0.1, .int .i64 q0.2] 38)).alloc (.cells #[.int .i64 q0.1, .int .i64 q0.2] 38)
  have bO := (Blk.new (w1.alloc (.cells #[.int .i64 q0.1, .int .i64 q0.2] 38)) 38 #[.int .i64 q0.1, .int .i64 q0.2]).alloc (.cells #[.int .i64 q0.1, .int .i64 q0.2] 38)
  have bT := Blk.new ((w1.alloc (.cells #[.int .i64 q0.1, .int .i64 q0.2] 38)).alloc (.cells #[.int .i64 q0.1, .int .i64 q0.2] 38)) 38 #[.int .i64 q0.1, .int .i64 q0.2]
  rw [World.size_alloc] at bO
  rw [World.size_alloc, World.size_alloc] at bT
  have hsz1 := hb1.size
  have hB3 := ((hb1.alloc hsz1 (.cells #[.int .i64 q0.1, .int .i64 q0.2] 38)).alloc (by simp; omega) (.cells #[.int .i64 q0.1, .int .i64 q0.2] 38)).alloc (by simp; omega) (.cells #[.int .i64 q0.1, .int .i64 q0.2] 38)
  generalize ((w1.alloc (.cells #[.int .i64 q0.1, .int .i64 q0.2] 38)).alloc (.cells #[.int .i64 q0.1, .int .i64 q0.2] 38)).alloc (.cells #[.int .i64 q0.1, .int .i64 q0.2] 38) = w3 at bF bO bT hB3 ⊢
  obtain ⟨F, hF⟩ : ∃ F, F = w1.heap.size := ⟨_, rfl⟩
  rw [← hF] at bF bO bT hsz1 ⊢
  have hT1 : Hid (flat (q.take 1) = flat [q0]) := Lib.hid (by rw [Geo.take_X q (by omega), List.take_zero, HX0.out]; rfl)
  clear d1 d2 hb1 hF g6
  go_loopw [4, 5] (fun v at_ wr => WrSt w q F v at_ wr) (fun v _ _ => q.length - lenOf v)
  case atStart => exact ⟨0, F + 1 + 1, by omega, rfl, by rw [HX0.out]; exact bT, by rw [HX0.out]; exact bF, by rw [hT1.out]; exact own_one (by omega) bO, ⟨by simp [Value.ownBlock], by simp [Value.ownBlock]⟩, hB3, by omega, hsz1⟩
  case round =>
    clear bF bO bT hB3 hT1
    obtain ⟨i, T, hi1, rfl, bT, bF, hown, ⟨hoT, hoF⟩, hB, hFT, hFF⟩ := hrel
    have hT : w.heap.size ≤ T := by omega
    rw [HX0.out] at bF
    obtain ⟨wo, rfl⟩ : ∃ wo, wo = wr := ⟨_, rfl⟩
    have HPI := Lib.hid (HPK.out i hi1)
    have HSI := Lib.hid (fun h : i + 1 < q.length => HST.out i h)
    have hal := HM.out _ (Geo.X_mem hi1)
    have HWa := Lib.hid (HWd.out _ hal)
    have HAL := Lib.hid hal
    generalize ha : Geo.X q i = a at *
    have HAX := Lib.hid ha
    clear hal ha
    have t1 := bT.cell 0
    have t2 := bT.cell 1
    simp only [List.getElem?_toArray, List.getElem?_cons_zero, List.getElem?_cons_succ] at t1 t2
    have hTl := bT.lt
    have hFl := bF.lt
    go_wp2
    have bN0 := Blk.new wo 38 #[.int .i64 a.1, .int .i64 a.2]
    have hb0 := (Below.refl wo.heap.size wo).alloc (Nat.le_refl _) (.cells #[.int .i64 a.1, .int .i64 a.2] 38)
    generalize hwN : wo.alloc (.cells #[.int .i64 a.1, .int .i64 a.2] 38) = wN at bN0 hb0 ⊢
    clear hwN
    obtain ⟨N, hN⟩ : ∃ N, N = wo.heap.size := ⟨_, rfl⟩
    have hTN : T < N := by omega
    have hFN : F < N := by omega
    have hNw : w.heap.size ≤ N := by have := hB.size; omega
    have hb0' : Below N wo wN := by rw [hN]; exact hb0
    have hNO : u4.ownBlock ≠ some N := fun e => by have := (hown.lt _ e).2; omega
    rw [← hN] at bN0 ⊢
    clear hb0 t1 t2
    have HN := Lib.hid hN
    clear hN
    go_loopw [23] (fun kv wr => ∃ k : Nat, k ≤ l.length ∧ kv = .int .i64 k ∧ Blk wr N 38 #[.int .i64 (Geo.pickK l a k).1, .int .i64 (Geo.pickK l a k).2] ∧ Below N wo wr) (fun kv _ => l.length - (intOf kv).toNat)
    case atStart => exact ⟨0, Nat.zero_le _, rfl, bN0, hb0'⟩
    case round =>
      clear bN0 hb0'
      obtain ⟨k, hk, rfl, bN, hB2⟩ := hrel
      have hBw : Below w.heap.size w wr := hB.trans (hB2.mono hNw)
      have bT2 := bT.below hB2 hTN
      have bF2 := bF.below hB2 hFN
      have hxl := pick_mem HAL.out k hk
      have HWx := Lib.hid (HWd.out _ hxl)
      by_cases hlt : k < l.length
      · have c1 : wr.cell? ⟨b, off + k * 2, none⟩ = some (.int .i64 (Geo.X l k).1) := (hBw.cell (p := ⟨b, off + k * 2, none⟩) hb).trans (HC.out k hlt).1
        have c2 : wr.cell? ⟨b, off + k * 2 + 1, none⟩ = some (.int .i64 (Geo.X l k).2) := (hBw.cell (p := ⟨b, off + k * 2 + 1, none⟩) hb).trans (HC.out k hlt).2
        have HWp := Lib.hid (HWd.out _ (Geo.X_mem hlt))
        have HK : Hid (Geo.pickK l a (k + 1) = if Geo.Take a (Geo.pickK l a k) (Geo.X l k) then Geo.X l k else Geo.pickK l a k) := Lib.hid rfl
        clear hxl
        generalize hx : Geo.pickK l a k = x at *
        generalize hp : Geo.X l k = p at *
        clear hx hp
        have hNl := bN.lt
        have bTa := bT2.alloc (.cells #[.int .i64 p.1, .int .i64 p.2] 38)
        have bFa := bF2.alloc (.cells #[.int .i64 p.1, .int .i64 p.2] 38)
        have bNa := bN.alloc (.cells #[.int .i64 p.1, .int .i64 p.2] 38)
        have bPa := Blk.new wr 38 #[.int .i64 p.1, .int .i64 p.2]
        have hBa : Below N wo (wr.alloc (.cells #[.int .i64 p.1, .int .i64 p.2] 38)) := hB2.alloc (by omega) _
        have e1 := bTa.cell 0
        have e2 := bTa.cell 1
        have e3 := bNa.cell 0
        have e4 := bNa.cell 1
        simp only [List.getElem?_toArray, List.getElem?_cons_zero, List.getElem?_cons_succ] at e1 e2 e3 e4
        obtain ⟨r1, hr1⟩ : ∃ r, decide (p = a) = r := ⟨_, rfl⟩
        have q1 := fun w => run_eqXY p a r1 hr1 w
        have HR1 := Lib.hid hr1
        clear hr1
        cases r1 with
        | true =>
          have hpa : p = a := of_decide_eq_true HR1.out
          have HKN : Hid (Geo.pickK l a (k + 1) = x) := Lib.hid (by rw [HK.out, if_neg]; exact fun h => h.1 hpa)
          clear hpa
          go_wp2
          go_roundw
          case rel => exact ⟨k + 1, by omega, by go_num, by rw [HKN.out]; exact bNa, hBa⟩
          case measure => simp [intOf]; omega
        | false =>
          have hpa : ¬ p = a := of_decide_eq_false HR1.out
          have HPA := Lib.hid hpa
          clear hpa
          obtain ⟨cr, hcr⟩ : ∃ r, Geo.Cross a x p = r := ⟨_, rfl⟩
          have HCR := Lib.hid hcr
          clear hcr
          go_wp2_with fail
          refine (cross_q a x p HWa.out HWx.out HWp.out cr HCR.out _).mono ?_
          rintro e w4 ⟨rfl, hb4⟩
          have bT4 := bTa.below hb4 bTa.lt
          have bN4 := bNa.below hb4 bNa.lt
          have bP4 := bPa.below hb4 bPa.lt
          have hB4 : Below N wo w4 := hBa.trans (hb4.mono (by simp; omega))
          clear e1 e2 e3 e4 q1 bTa bFa bNa bPa c1 c2
          have e1 := bT4.cell 0
          have e2 := bT4.cell 1
          have e3 := bN4.cell 0
          have e4 := bN4.cell 1
          have e5 := bP4.cell 0
          have e6 := bP4.cell 1
          have e7 := bN4.frozen 0
          have e8 := bN4.frozen 1
          simp only [List.getElem?_toArray, List.getElem?_cons_zero, List.getElem?_cons_succ] at e1 e2 e3 e4 e5 e6
          have bN5 : Blk ((w4.setCell ⟨N, 0, none⟩ (.int .i64 p.1)).setCell ⟨N, 1, none⟩ (.int .i64 p.2)) N 38 #[.int .i64 p.1, .int .i64 p.2] := (bN4.set_ 0 (.int .i64 p.1)).set_ 1 (.int .i64 p.2)
          have hB5 : Below N wo ((w4.setCell ⟨N, 0, none⟩ (.int .i64 p.1)).setCell ⟨N, 1, none⟩ (.int .i64 p.2)) := (hB4.setCell (p := ⟨N, 0, none⟩) (Nat.le_refl _) _).setCell (p := ⟨N, 1, none⟩) (Nat.le_refl _) _
          obtain ⟨r2, hr2⟩ : ∃ r, decide (x = a) = r := ⟨_, rfl⟩
          have q2 := fun w => run_eqXY x a r2 hr2 w
          have HR2 := Lib.hid hr2
          clear hr2
          cases r2 with
          | true =>
            have HKN : Hid (Geo.pickK l a (k + 1) = p) := Lib.hid (by rw [HK.out, if_pos]; exact ⟨HPA.out, .inl (of_decide_eq_true HR2.out)⟩)
            go_wp2
            go_roundw
            case rel => exact ⟨k + 1, by omega, by go_num, by rw [HKN.out]; exact bN5, hB5⟩
            case measure => simp [intOf]; omega
          | false =>
            have HXA : Hid (¬ x = a) := Lib.hid (of_decide_eq_false HR2.out)
            by_cases hc0 : cr < 0
            · have HKN : Hid (Geo.pickK l a (k + 1) = p) := Lib.hid (by rw [HK.out, if_pos]; exact ⟨HPA.out, .inr (.inl (by rw [HCR.out]; exact hc0))⟩)
              go_wp2
              go_roundw
              case rel => exact ⟨k + 1, by omega, by go_num, by rw [HKN.out]; exact bN5, hB5⟩
              case measure => simp [intOf]; omega
            · by_cases hc1 : cr = 0
              · obtain rfl := hc1
                obtain ⟨fb, hfb⟩ : ∃ r, farB a p x = r := ⟨_, rfl⟩
                have HFB := Lib.hid hfb
                clear hfb
                cases fb with
                | true =>
                  have HKN : Hid (Geo.pickK l a (k + 1) = p) := Lib.hid (by rw [HK.out, if_pos]; exact ⟨HPA.out, .inr (.inr ⟨HCR.out, of_decide_eq_true HFB.out⟩)⟩)
                  go_wp2_with fail
                  refine (farther_any a p x HWa.out HWp.out HWx.out true HFB.out _).mono ?_
                  rintro e w5 ⟨rfl, hb5⟩
                  clear e1 e2 e3 e4 e5 e6 e7 e8 bN5 hB5 q2
                  have bN6 := bN4.below hb5 bN4.lt
                  have bP6 := bP4.below hb5 bP4.lt
                  have hB6 : Below N wo w5 := hB4.trans (hb5.mono (by have := bN4.lt; omega))
                  have e5 := bP6.cell 0
                  have e6 := bP6.cell 1
                  have e3 := bN6.cell 0
                  have e4 := bN6.cell 1
                  have e7 := bN6.frozen 0
                  have e8 := bN6.frozen 1
                  simp only [List.getElem?_toArray, List.getElem?_cons_zero, List.getElem?_cons_succ] at e3 e4 e5 e6
                  have bN5 : Blk ((w5.setCell ⟨N, 0, none⟩ (.int .i64 p.1)).setCell ⟨N, 1, none⟩ (.int .i64 p.2)) N 38 #[.int .i64 p.1, .int .i64 p.2] := (bN6.set_ 0 (.int .i64 p.1)).set_ 1 (.int .i64 p.2)
                  have hB5 : Below N wo ((w5.setCell ⟨N, 0, none⟩ (.int .i64 p.1)).setCell ⟨N, 1, none⟩ (.int .i64 p.2)) := (hB6.setCell (p := ⟨N, 0, none⟩) (Nat.le_refl _) _).setCell (p := ⟨N, 1, none⟩) (Nat.le_refl _) _
                  go_wp2
                  go_roundw
                  case rel => exact ⟨k + 1, by omega, by go_num, by rw [HKN.out]; exact bN5, hB5⟩
                  case measure => simp [intOf]; omega
                | false =>
                  have HKN : Hid (Geo.pickK l a (k + 1) = x) := Lib.hid (by rw [HK.out, if_neg]; rintro ⟨_, h | h | ⟨_, h⟩⟩; exact HXA.out h; (rw [HCR.out] at h; omega); exact of_decide_eq_false HFB.out h)
                  go_wp2_with fail
                  refine (farther_any a p x HWa.out HWp.out HWx.out false HFB.out _).mono ?_
                  rintro e w5 ⟨rfl, hb5⟩
                  clear e1 e2 e3 e4 e5 e6 e7 e8 bN5 hB5 q2
                  have bN6 := bN4.below hb5 bN4.lt
                  have hB6 : Below N wo w5 := hB4.trans (hb5.mono (by have := bN4.lt; omega))
                  go_wp2
                  go_roundw
                  case rel => exact ⟨k + 1, by omega, by go_num, by rw [HKN.out]; exact bN6, hB6⟩
                  case measure => simp [intOf]; omega
              · have HKN : Hid (Geo.pickK l a (k + 1) = x) := Lib.hid (by rw [HK.out, if_neg]; rintro ⟨_, h | h | ⟨h, _⟩⟩; exact HXA.out h; (rw [HCR.out] at h; omega); (rw [HCR.out] at h; omega))
                clear bN5 hB5
                go_wp2
                go_roundw
                case rel => exact ⟨k + 1, by omega, by go_num, by rw [HKN.out]; exact bN4, hB4⟩
                case measure => simp [intOf]; omega
      · obtain rfl : k = l.length := by omega
        rw [HPI.out] at bN
        clear HPI hxl HWx hlt
        have hsw : w.heap.size ≤ wr.heap.size := hBw.size
        have hb2' : Below wo.heap.size wo wr := by have h := hB2; rw [HN.out] at h; exact h
        have hownN := own_keep hown hb2'
        have hNl := bN.lt
        clear hb2' hown bT bF
        have HQT : Hid (i + 1 < q.length → q.take (i + 1 + 1) = q.take (i + 1) ++ [Geo.At q (i + 1)]) := Lib.hid (fun h => by rw [Geo.take_X q h, Geo.At_lt q h])
        have HYF : Hid (i + 1 = q.length → Geo.At q (i + 1) = q0) := Lib.hid (fun h => by rw [show i + 1 = 0 + q.length by omega, Geo.At_per, Geo.At_lt q (by omega), HX0.out])
        have HYN : Hid (i + 1 < q.length → ¬ Geo.At q (i + 1) = q0) := Lib.hid (fun h => by rw [Geo.At_lt q h, ← HX0.out]; exact HDF.out _ (by omega) h)
        have HXN : Hid (i + 1 < q.length → Geo.X q (i + 1) = Geo.At q (i + 1)) := Lib.hid (fun h => (Geo.At_lt q h).symm)
        generalize hy : Geo.At q (i + 1) = y at *
        clear hy
        have e1 := bT2.cell 0
        have e2 := bT2.cell 1
        have e3 := bN.cell 0
        have e4 := bN.cell 1
        have e5 := bF2.cell 0
        have e6 := bF2.cell 1
        simp only [List.getElem?_toArray, List.getElem?_cons_zero, List.getElem?_cons_succ] at e1 e2 e3 e4 e5 e6
        by_cases hin : i + 1 = q.length
        · have q1 := fun w => run_eqXY y q0 true (decide_eq_true (HYF.out hin)) w
          go_wp2
          go_ret
          exact ⟨_, rfl, by have h := hownN; rw [hin, List.take_length] at h; exact h, hBw⟩
        · have hlt : i + 1 < q.length := by omega
          have q1 := fun w => run_eqXY y q0 false (decide_eq_false (HYN.out hlt)) w
          have q2 := fun w => run_eqXY y a false (decide_eq_false (HSI.out hlt)) w
          go_wp2_with (at_builtin; refine wpList_append_own _ rfl _ _ 22 rfl w.heap.size 38 i0 _ 2 16 Try.underlying22 hi hz0 hz1 hz2 rfl (by decide) _ _ _ rfl (hownN.alloc _) ⟨wr.heap.size, 0, none⟩ 1 1 [.int .i64 y.1, .int .i64 y.2] rfl rfl (new_cells wr _ _) (one_two _ _) (by unfold maxLen; omega) (by omega) (by simp; omega) ?_; intro v7 w7 hown7 hgrow7 _; have bN7 : Blk w7 N 38 #[.int .i64 y.1, .int .i64 y.2] := (hgrow7.block _ (by simp; omega) hNO.symm).trans (bN.alloc _); have bT7 : Blk w7 T 38 #[.int .i64 a.1, .int .i64 a.2] := (hgrow7.block _ (by simp; omega) hoT.symm).trans (bT2.alloc _); have bF7 : Blk w7 F 38 #[.int .i64 q0.1, .int .i64 q0.2] := (hgrow7.block _ (by simp; omega) hoF.symm).trans (bF2.alloc _); have d1 := bN7.cell 0; have d2 := bN7.cell 1; have d3 := bT7.cell 0; have d4 := bT7.cell 1; have d5 := bT7.frozen 0; have d6 := bT7.frozen 1; simp only [List.getElem?_toArray, List.getElem?_cons_zero, List.getElem?_cons_succ] at d1 d2 d3 d4; have hB7 : Below w.heap.size w w7 := (hBw.alloc hsw _).grown hgrow7 (by simp; omega) (fun j e => (hownN.lt j e).1))
          have hTF : T ≠ F := by omega
          have hvT := own_ne hown7 (by omega) bT7
          have hvF := own_ne hown7 (by omega) bF7
          have bT8 := Blk.new ((w7.setCell ⟨T, 0, none⟩ (.int .i64 y.1)).setCell ⟨T, 1, none⟩ (.int .i64 y.2)) 38 #[.int .i64 y.1, .int .i64 y.2]
          have bF8 := ((bF7.far (p := ⟨T, 0, none⟩) hTF.symm (.int .i64 y.1)).far (p := ⟨T, 1, none⟩) hTF.symm (.int .i64 y.2)).alloc (.cells #[.int .i64 y.1, .int .i64 y.2] 38)
          have hown8 := own_keep (own_set (own_set hown7 hvT 0 (.int .i64 y.1)) hvT 1 (.int .i64 y.2)) ((Below.refl _ _).alloc (Nat.le_refl _) (.cells #[.int .i64 y.1, .int .i64 y.2] 38))
          have hB8 := ((hB7.setCell (p := ⟨T, 0, none⟩) hT (.int .i64 y.1)).setCell (p := ⟨T, 1, none⟩) hT (.int .i64 y.2)).alloc (by have := hB7.size; simpa using this) (.cells #[.int .i64 y.1, .int .i64 y.2] 38)
          have hsz8 : ((w7.setCell ⟨T, 0, none⟩ (.int .i64 y.1)).setCell ⟨T, 1, none⟩ (.int .i64 y.2)).heap.size = w7.heap.size := by simp [World.setCell]
          rw [hsz8] at bT8
          have hfl : flat (List.take (i + 1) q) ++ [Value.int IntKind.i64 y.1, Value.int IntKind.i64 y.2] = flat (q.take (i + 1 + 1)) := by rw [HQT.out hlt, flat_append]; rfl
          rw [hfl] at hown8
          obtain ⟨_, _, hu4⟩ := ownsRow_succ hownN
          obtain ⟨_, _, hv7⟩ := ownsRow_succ hown7
          refine ⟨⟨i + 1, w7.heap.size, hlt, rfl, by rw [HXN.out hlt]; exact bT8, by rw [HX0.out]; exact bF8, hown8, ⟨?_, hvF⟩, hB8, bF7.lt, hFF⟩, ?_⟩
          · intro e
            have := (hown7.lt _ e).2
            omega
          · rw [hu4, hv7]
            simp only [lenOf]
            omega
end Go.Proofs.Ytflkhjicgojcbaa
