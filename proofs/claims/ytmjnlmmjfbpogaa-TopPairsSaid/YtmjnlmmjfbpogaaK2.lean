/- judged, of the document. -/
import Derived.Test.YtmjnlmmjfbpogaaK1
import Derived.Test.YtmjnlmmjfbpogaaR1
namespace Go.Proofs.Ytmjnlmmjfbpogaa
open Go.RowKit Go.Shelf

set_option maxRecDepth 100000 in
set_option maxHeartbeats 16000000 in
theorem judged_b (A : Option Addr) (l : List Pl.Tm) (c n : Nat) (hn : l.length = n) (hok : Pl.Ok l) (tol : Int) (ht : 0 ≤ tol ∧ tol ≤ 2000) (Ap : Option Addr) (ps : List (Int × Int)) (cp m : Nat) (hm : ps.length = m) (hm70 : m ≤ 70) (v : Int) (hv : Pl.jd l tol ps = v) (w : World) (hI : Tms w A l) (hP : Rows ipc 2 w Ap ps) :
    Calls Try.prog 55 #[.slice A n c, .int .i64 tol, .slice Ap m cp] w fun e w' => e = .returned (.int .i64 v) ∧ Below w.heap.size w w' := by
  have HI := Lib.hid hI
  have HP := Lib.hid hP
  have HN := Lib.hid hn
  have HM := Lib.hid hm
  have HOK := Lib.hid hok
  have HV := Lib.hid hv
  have hl : n ≤ 60 := hn ▸ hok.len
  have HKT : Hid (IntKind.i64.wrap (-tol) = -tol) := Lib.hid (IntWalk.i64_in _ (by omega))
  clear hI hP hn hm hok hv ht
  go_enter Try.func55, Try.ntmps55
  go_wp2
  go_loopw [7] (fun i wr => ∃ k : Nat, k ≤ m ∧ i = .int .i64 k ∧ Hid ((ps.take k).all (Pl.pok n) = true) ∧ Below w.heap.size w wr) (fun i _ => m - (intOf i).toNat)
  case atStart => exact ⟨0, Nat.zero_le _, rfl, Lib.hid rfl, Below.refl _ _⟩
  case round =>
    obtain ⟨k, hk, rfl, hall, hB⟩ := hrel
    obtain ⟨wo, rfl⟩ : ∃ wo, wo = wr := ⟨_, rfl⟩
    by_cases hlt : k < m
    · have hkp : k < ps.length := by rw [HM.out]; exact hlt
      obtain ⟨bp, op, rfl, hbp, hcp⟩ := HP.out.open (by omega)
      have hck := rangeAt_below (hcp k hkp) hbp hB
      have HYES : Hid (Pl.pok n ps[k] = true → (ps.take (k + 1)).all (Pl.pok n) = true) := Lib.hid (fun h => Pl.all_snoc hkp hall.out h)
      have HNO : Hid (Pl.pok n ps[k] = false → v = 2) := Lib.hid (fun h => by rw [← HV.out]; unfold Pl.jd; rw [HN.out, if_neg (by rw [Pl.all_not hkp h]; simp)])
      clear hcp hall
      generalize ps[k] = p at *
      obtain ⟨p1, p2⟩ := p
      obtain ⟨x1, h1⟩ : ∃ x, decide (0 ≤ p1 ∧ p1 < (n : Int)) = x := ⟨_, rfl⟩
      obtain ⟨x2, h2⟩ : ∃ x, decide (0 ≤ p2 ∧ p2 < (n : Int)) = x := ⟨_, rfl⟩
      unfold Pl.pok at HYES HNO
      rw [h1, h2] at HYES HNO
      have H1 := Lib.hid h1
      have H2 := Lib.hid h2
      clear h1 h2
      have q0 : wo.cell? ⟨bp, op + k * 2, none⟩ = some (.int .i64 p1) := hck 0 _ rfl
      have q1 : wo.cell? ⟨bp, op + k * 2 + 1, none⟩ = some (.int .i64 p2) := hck 1 _ rfl
      clear hck
      have hc : x1 = false ∨ (x1 = true ∧ x2 = false) ∨ (x1 = true ∧ x2 = true) := by cases x1 <;> cases x2 <;> simp
      rcases hc with rfl | ⟨rfl, rfl⟩ | ⟨rfl, rfl⟩
      · have HF : Hid (v = 2) := Lib.hid (HNO.out rfl)
        go_wp2_with fail
        refine (risindex_b p1 _ n c _ H1.out _).mono ?_
        rintro e w1 ⟨rfl, rfl⟩
        go_wp2
        go_ret
        exact ⟨by rw [HF.out]; rfl, hB⟩
      · have HF : Hid (v = 2) := Lib.hid (HNO.out rfl)
        go_wp2_with fail
        refine (risindex_b p1 _ n c _ H1.out _).mono ?_
        rintro e w1 ⟨rfl, rfl⟩
        go_wp2_with fail
        refine (risindex_b p2 _ n c _ H2.out _).mono ?_
        rintro e w1 ⟨rfl, rfl⟩
        go_wp2
        go_ret
        exact ⟨by rw [HF.out]; rfl, hB⟩
      · have HF := Lib.hid (HYES.out rfl)
        go_wp2_with fail
        refine (risindex_b p1 _ n c _ H1.out _).mono ?_
        rintro e w1 ⟨rfl, rfl⟩
        go_wp2_with fail
        refine (risindex_b p2 _ n c _ H2.out _).mono ?_
        rintro e w1 ⟨rfl, rfl⟩
        go_wp2
        go_roundw
        case rel => exact ⟨k + 1, by omega, by go_num, HF, hB⟩
        case measure => simp [intOf]; omega
    · obtain rfl : k = m := by omega
      have hall2 : ps.all (Pl.pok n) = true := by have := hall.out; rw [List.take_of_length_le (by rw [HM.out]; exact Nat.le_refl _)] at this; exact this
      have HPO : Hid (∀ q (hq : q < ps.length), (0 ≤ ps[q].1 ∧ ps[q].1 < n) ∧ 0 ≤ ps[q].2 ∧ ps[q].2 < n) := Lib.hid (fun q hq => Pl.pok_true (List.all_eq_true.1 hall2 _ (List.getElem_mem hq)))
      have HJ : Hid (Pl.jgn l tol ((ps.map Pl.nat2).drop 0) (fun _ => false) = v) := Lib.hid (by rw [List.drop_zero, ← HV.out]; unfold Pl.jd; rw [HN.out, if_pos hall2])
      clear hall hall2 hlt hk
      obtain ⟨i0, hi0, hz0, hn0, hy0⟩ := info_parts info4
      have hmk := run_make wo 76 4 i0 (.bool false) Try.underlying76 hi0 hz0 .i64 .i64 n n (by omega) (by omega) (by rw [hy0]; omega) (by omega)
      rw [Int.toNat_natCast, hn0, Nat.mul_one] at hmk
      have hst := StB.new wo n
      have hB3 := hB.alloc hB.size (.cells (madeCells #[.bool false] n) 4)
      have hgb := hB.size
      change Sem.run _ _ _ = Result.ok _ (wo.alloc (.cells (madeCells #[.bool false] n) 4)) at hmk
      generalize wo.alloc (.cells (madeCells #[.bool false] n) 4) = w3 at *
      generalize wo.heap.size = g at *
      clear hi0 hz0 hn0 hy0 hB
      go_wp2
      clear hmk
      go_loopw [9, 10, 11] (fun i _ _ wr => ∃ k' : Nat, ∃ u, k' ≤ k ∧ i = .int .i64 k' ∧ StB wr g n u ∧ Hid (Pl.jgn l tol ((ps.map Pl.nat2).drop k') u = v) ∧ Below w.heap.size w wr) (fun i _ _ _ => k - (intOf i).toNat)
      case atStart => exact ⟨0, _, Nat.zero_le _, rfl, hst, HJ, hB3⟩
      case round =>
        clear hst HJ hB3
        obtain ⟨k', u, hk', rfl, hst, hjg, hB⟩ := hrel
        obtain ⟨w4, rfl⟩ : ∃ w4, w4 = wr := ⟨_, rfl⟩
        by_cases hlt : k' < k
        · have hkp : k' < ps.length := by rw [HM.out]; exact hlt
          obtain ⟨bp, op, rfl, hbp, hcp⟩ := HP.out.open (by omega)
          have hck := rangeAt_below (hcp k' hkp) hbp hB
          obtain ⟨⟨hi1, hi2⟩, hj1, hj2⟩ := HPO.out k' hkp
          have hdr : (ps.map Pl.nat2).drop k' = Pl.nat2 ps[k'] :: (ps.map Pl.nat2).drop (k' + 1) := by
            rw [List.drop_eq_getElem_cons (by simpa using hkp), List.getElem_map]
          have HJ2 := Lib.hid hjg.out
          rw [hdr] at HJ2
          clear hcp hjg hdr
          generalize ps[k'] = p at *
          obtain ⟨p1, p2⟩ := p
          dsimp only at hi1 hi2 hj1 hj2
          obtain ⟨i, rfl⟩ : ∃ i : Nat, p1 = i := ⟨p1.toNat, by omega⟩
          obtain ⟨j, rfl⟩ : ∃ j : Nat, p2 = j := ⟨p2.toNat, by omega⟩
          rw [show Pl.nat2 ((i : Int), (j : Int)) = (i, j) from rfl] at HJ2
          have hil : i < l.length := by rw [HN.out]; omega
          have hjl : j < l.length := by rw [HN.out]; omega
          obtain ⟨bz, oz, rfl, hbz, hcz⟩ := tms_open HI.out (by omega)
          have HCI := Lib.hid (fun (W : World) (hB : Below w.heap.size w W) => tms_cells hbz hcz hB hil)
          have HCJ := Lib.hid (fun (W : World) (hB : Below w.heap.size w W) => tms_cells hbz hcz hB hjl)
          have vi := HOK.out.vt i hil
          have vj := HOK.out.vt j hjl
          have HVI := Lib.hid vi
          have HVJ := Lib.hid vj
          have HK1 := Lib.hid (vt_wrap vi vj)
          have HK2 := Lib.hid (vt_wrap vj vi)
          have hgl := hst.lt
          have hin : i < n := by omega
          have hjn : j < n := by omega
          clear hil hjl hcz vi vj
          have z0 := fun e : Ext w4 => e.cell (show w4.cell? ⟨bp, op + k' * 2, none⟩ = some (.int .i64 (i : Int)) from hck 0 _ rfl)
          have z1 := fun e : Ext w4 => e.cell (show w4.cell? ⟨bp, op + k' * 2 + 1, none⟩ = some (.int .i64 (j : Int)) from hck 1 _ rfl)
          have hst1 := hst
          have hB1 := hB
          have hgl1 := hgl
          clear hck hst hB
          go_wp2
          refine wp_region_ext (by kernel_rfl) (by kernel_rfl) ?_
          repeat (go_big_quiet_step (fail))
          refine wpQuiet_nil ?_
          rintro _ ⟨s, rfl⟩
          have hB2 := hB1.trans (s.h.mono hB1.size)
          have hst2 := hst1.below s.h hgl1
          clear hst1 hgl1 z0 z1 hB1
          generalize s.w = w5 at *
          clear s
          have ci := hst2.cell hin
          have cj := hst2.cell hjn
          have fi := hst2.frozen i
          have fj := hst2.frozen j
          obtain ⟨ui, hui⟩ : ∃ b, u i = b := ⟨_, rfl⟩
          obtain ⟨uj, huj⟩ : ∃ b, u j = b := ⟨_, rfl⟩
          rw [hui] at ci
          rw [huj] at cj
          have HUI := Lib.hid hui
          have HUJ := Lib.hid huj
          clear hui huj
          cases ui with
          | true =>
            have HF : Hid (v = 43) := Lib.hid (by rw [← HJ2.out, Pl.jgn_43 (.inr (.inl HUI.out))])
            go_wp2
            go_ret
            exact ⟨by rw [HF.out]; rfl, hB2⟩
          | false =>
          cases uj with
          | true =>
            have HF : Hid (v = 43) := Lib.hid (by rw [← HJ2.out, Pl.jgn_43 (.inr (.inr HUJ.out))])
            go_wp2
            go_ret
            exact ⟨by rw [HF.out]; rfl, hB2⟩
          | false =>
          by_cases hij : i = j
          · have HF : Hid (v = 43) := Lib.hid (by rw [← HJ2.out, Pl.jgn_43 (.inl hij)])
            have hij2 : ((i : Int) == (j : Int)) = true := by simp [hij]
            clear hij
            go_wp2
            go_ret
            exact ⟨by rw [HF.out]; rfl, hB2⟩
          have hij2 : ((i : Int) == (j : Int)) = false := by simp; omega
          have H43 := Lib.hid hij
          have hst3 := (hst2.set (f' := fun q => decide (q = i) || u q) i true (fun q _ => by by_cases e : q = i <;> simp [e])).set (f' := fun q => decide (q = j) || (decide (q = i) || u q)) j true (fun q _ => by by_cases e : q = j <;> simp [e])
          have hO : Below w.heap.size w ((w5.setCell ⟨g, i, none⟩ (.bool true)).setCell ⟨g, j, none⟩ (.bool true)) := hB2.trans (((Only.setCell g w5 i _).trans (Only.setCell g _ j _)).below hgb)
          have hiI : (i : Int) < (n : Int) := by omega
          have hjI : (j : Int) < (n : Int) := by omega
          have cij : (w5.setCell ⟨g, i, none⟩ (.bool true)).frozen? ⟨g, j, none⟩ = false := (hst2.set (f' := fun q => decide (q = i) || u q) i true (fun q _ => by by_cases e : q = i <;> simp [e])).frozen j
          have cij2 : (w5.setCell ⟨g, i, none⟩ (.bool true)).cell? ⟨g, j, none⟩ = some (.bool (decide (j = i) || u j)) := (hst2.set (f' := fun q => decide (q = i) || u q) i true (fun q _ => by by_cases e : q = i <;> simp [e])).cell hjn
          rw [decide_eq_false (fun e : j = i => hij e.symm), HUJ.out] at cij2
          have hgz := hst3.lt
          clear hst2 hB2 hij
          go_wp2
          generalize (w5.setCell ⟨g, i, none⟩ (.bool true)).setCell ⟨g, j, none⟩ (.bool true) = w6 at *
          have yi0 := fun e : Ext w6 => (HCI.out _ (hO.trans (e.h.mono hO.size))).1
          have yi1 := fun e : Ext w6 => (HCI.out _ (hO.trans (e.h.mono hO.size))).2.1
          have yi2 := fun e : Ext w6 => (HCI.out _ (hO.trans (e.h.mono hO.size))).2.2.1
          have yi3 := fun e : Ext w6 => (HCI.out _ (hO.trans (e.h.mono hO.size))).2.2.2
          have yj0 := fun e : Ext w6 => (HCJ.out _ (hO.trans (e.h.mono hO.size))).1
          have yj1 := fun e : Ext w6 => (HCJ.out _ (hO.trans (e.h.mono hO.size))).2.1
          have yj2 := fun e : Ext w6 => (HCJ.out _ (hO.trans (e.h.mono hO.size))).2.2.1
          have yj3 := fun e : Ext w6 => (HCJ.out _ (hO.trans (e.h.mono hO.size))).2.2.2
          clear ci cj fi fj cij cij2
          by_cases hs : (Pl.at' l i).side = 1
          rotate_left
          · have HF : Hid (v = 42) := Lib.hid (by rw [← HJ2.out, Pl.jgn_42 H43.out HUI.out HUJ.out (.inl hs)])
            have hs2 : ((Pl.at' l i).side != 1) = true := by simp [hs]
            clear hs
            refine wp_region_ext (by kernel_rfl) (by kernel_rfl) ?_
            repeat (go_big_quiet_step (fail))
            refine wpQuiet_nil ?_
            rintro _ ⟨s, rfl⟩
            have hB6 := hO.trans (s.h.mono hO.size)
            have hst6 := hst3.below s.h hgz
            clear yi0 yi1 yi2 yi3 yj0 yj1 yj2 yj3
            go_wp2
            go_ret
            exact ⟨by rw [HF.out]; rfl, hB6⟩
          have hs2 : ((Pl.at' l i).side != 1) = false := by simp [hs]
          have HS1 := Lib.hid hs
          by_cases ht2 : (Pl.at' l j).side = 2
          rotate_left
          · have HF : Hid (v = 42) := Lib.hid (by
              have hj1 : (Pl.at' l j).side = 1 := HVJ.out.s.resolve_right ht2
              have hcan : Pl.can (Pl.at' l i) (Pl.at' l j) tol = false := by unfold Pl.can; rw [hs, hj1]; rfl
              rw [← HJ2.out, Pl.jgn_42 H43.out HUI.out HUJ.out (.inr hcan)])
            have hs3 : ((Pl.at' l j).side != 2) = true := by simp [ht2]
            clear hs ht2
            refine wp_region_ext (by kernel_rfl) (by kernel_rfl) ?_
            repeat (go_big_quiet_step (fail))
            refine wpQuiet_nil ?_
            rintro _ ⟨s, rfl⟩
            have hB6 := hO.trans (s.h.mono hO.size)
            have hst6 := hst3.below s.h hgz
            clear yi0 yi1 yi2 yi3 yj0 yj1 yj2 yj3
            go_wp2
            go_ret
            exact ⟨by rw [HF.out]; rfl, hB6⟩
          have hs3 : ((Pl.at' l j).side != 2) = false := by simp [ht2]
          clear ht2
          clear hs
          have hd := rcan_b (Pl.at' l i) (Pl.at' l j) tol _ rfl HK1.out HK2.out
          obtain ⟨x, hx⟩ : ∃ x, Pl.can (Pl.at' l i) (Pl.at' l j) tol = x := ⟨_, rfl⟩
          rw [hx] at hd
          have HD := Lib.hid hd
          have HX := Lib.hid hx
          clear hd hx
          cases x with
          | false =>
            have HF : Hid (v = 42) := Lib.hid (by rw [← HJ2.out, Pl.jgn_42 H43.out HUI.out HUJ.out (.inr HX.out)])
            refine wp_region_ext (by kernel_rfl) (by kernel_rfl) ?_
            repeat (go_big_quiet_step ((go_at_call 51; refine calls_ext (HD.out _))))
            refine wpQuiet_nil ?_
            rintro _ ⟨s, rfl⟩
            have hB6 := hO.trans (s.h.mono hO.size)
            have hst6 := hst3.below s.h hgz
            clear yi0 yi1 yi2 yi3 yj0 yj1 yj2 yj3
            go_wp2
            go_ret
            exact ⟨by rw [HF.out]; rfl, hB6⟩
          | true =>
            have HF := Lib.hid ((Pl.jgn_on H43.out HUI.out HUJ.out HS1.out HX.out).symm.trans HJ2.out)
            refine wp_region_ext (by kernel_rfl) (by kernel_rfl) ?_
            repeat (go_big_quiet_step ((go_at_call 51; refine calls_ext (HD.out _))))
            refine wpQuiet_nil ?_
            rintro _ ⟨s, rfl⟩
            have hB6 := hO.trans (s.h.mono hO.size)
            have hst6 := hst3.below s.h hgz
            clear yi0 yi1 yi2 yi3 yj0 yj1 yj2 yj3
            go_wp2
            go_roundw
            case rel => exact ⟨k' + 1, _, by omega, by go_num, hst6, HF, hB6⟩
            case measure => simp [intOf]; omega
        · obtain rfl : k' = k := by omega
          have HF : Hid (v = 0) := Lib.hid (by rw [← hjg.out, List.drop_of_length_le (by rw [List.length_map, HM.out]; exact Nat.le_refl _)]; rfl)
          go_wp2
          go_ret
          exact ⟨by rw [HF.out]; rfl, hB⟩
end Go.Proofs.Ytmjnlmmjfbpogaa
