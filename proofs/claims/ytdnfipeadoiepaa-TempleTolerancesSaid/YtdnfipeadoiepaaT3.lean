/- Tolerance, of the document. -/
import Derived.Test.YtdnfipeadoiepaaM2
import Derived.Test.YtdnfipeadoiepaaP9
namespace Go.Proofs.Ytdnfipeadoiepaa
open Go.RowKit Go.Shelf

set_option maxRecDepth 100000 in
set_option maxHeartbeats 16000000 in
theorem rTolerance_any (A : Option Addr) (l : List Pl.Tm) (c n : Nat) (hn : l.length = n) (m : Int) (w : World) (hI : Tms w A l) :
    Calls Try.prog 36 #[.slice A n c, .int .i64 m] w fun e w' => ∃ t r, e = .returned (.tuple #[.int .i64 t, .int .i64 r]) ∧ Pl.Tp l m t r ∧ Below w.heap.size w w' := by
  obtain ⟨x, hx⟩ : ∃ x, Pl.vs l = x := ⟨_, rfl⟩
  have HV := Lib.hid (fun (w' : World) hI => rvalid_any A l c w' hI)
  rw [hn, hx] at HV
  have HI := Lib.hid hI
  have HN := Lib.hid hn
  have HX := Lib.hid hx
  clear hI hn hx
  go_enter Try.func36, Try.ntmps36
  go_wp2_with fail
  refine (HV.out _ HI.out).mono ?_
  rintro e w1 ⟨rfl, hB1⟩
  have HI1 := Lib.hid (HI.out.below hB1)
  clear HV
  cases x with
  | false =>
    go_wp2
    go_ret2
    exact ⟨_, _, rfl, .inl ⟨HX.out, rfl, rfl⟩, hB1⟩
  | true =>
    by_cases hm : m < 0
    · go_wp2
      go_ret2
      exact ⟨_, _, rfl, .inr (.inl ⟨HX.out, hm, rfl, rfl⟩), hB1⟩
    · have hok : Pl.Ok l := Pl.ok_of HX.out
      have hl : n ≤ 60 := HN.out ▸ hok.len
      have HMO := Lib.hid (fun (tol : Int) (ht : 0 ≤ tol ∧ tol ≤ 1000) (w' : World) hI => rmost_any A l c n HN.out hok tol ht w' hI)
      have HOK := Lib.hid hok
      clear hok
      obtain ⟨N, hN⟩ : ∃ N : Nat, (Pl.mt l 1000).length = N := ⟨_, rfl⟩
      have hM := HMO.out 1000 ⟨by omega, by omega⟩ w1 HI1.out
      rw [hN] at hM
      have HM := Lib.hid hM
      have HNN := Lib.hid hN
      clear hM hN
      go_wp2_with fail
      refine HM.out.mono ?_
      rintro e w2 ⟨rfl, hb2⟩
      have hB2 := hB1.trans (hb2.mono hB1.size)
      have HI2 := Lib.hid (HI1.out.below hb2)
      clear HM hb2 hB1 HI1
      by_cases hlim : (N : Int) < m
      · go_wp2
        go_ret2
        exact ⟨_, _, rfl, .inr (.inr (.inl ⟨HX.out, by omega, by rw [HNN.out]; exact hlim, rfl, rfl⟩)), hB2⟩
      · by_cases hz : m = 0
        · subst hz
          go_wp2
          go_ret2
          exact ⟨_, _, rfl, .inr (.inr (.inr ⟨HX.out, by omega, ⟨by omega, by omega, by omega, fun s h1 h2 => by omega⟩, rfl⟩)), hB2⟩
        · have hzb : (m == 0) = false := by simp [hz]
          obtain ⟨N0, hN0⟩ : ∃ N : Nat, (Pl.mt l 0).length = N := ⟨_, rfl⟩
          have hM := HMO.out 0 ⟨by omega, by omega⟩ w2 HI2.out
          rw [hN0] at hM
          have HM := Lib.hid hM
          have HN0 := Lib.hid hN0
          clear hM hN0
          go_wp2_with fail
          refine HM.out.mono ?_
          rintro e w3 ⟨rfl, hb3⟩
          have hB3 := hB2.trans (hb3.mono hB2.size)
          have HI3 := Lib.hid (HI2.out.below hb3)
          clear HM hb3 hB2 HI2
          by_cases h0 : (N0 : Int) ≥ m
          · go_wp2
            go_ret2
            exact ⟨_, _, rfl, .inr (.inr (.inr ⟨HX.out, by omega, ⟨by omega, by omega, by rw [HN0.out]; exact h0, fun s h1 h2 => by omega⟩, rfl⟩)), hB3⟩
          · have HBE : Hid (Pl.Be l m 1000 0 0) := Lib.hid (Pl.Be.start (by rw [HNN.out]; omega))
            have hm1 : 1 ≤ m := by omega
            have hI3 := HI3.out
            have HI := HI3
            clear HNN HN0 hI3 HI3
            go_wp2
            clear hlim hz hzb h0 hm
            go_loopw [6, 7, 8, 9] (fun b i _ _ wr => ∃ k : Nat, ∃ best : Int, k ≤ n ∧ b = .int .i64 best ∧ i = .int .i64 k ∧ Hid (Pl.Be l m best k 0) ∧ Below w3.heap.size w3 wr) (fun _ i _ _ _ => n - (intOf i).toNat)
            case atStart => exact ⟨0, 1000, Nat.zero_le _, rfl, rfl, HBE, Below.refl _ _⟩
            case round =>
              clear HBE
              obtain ⟨k, best, hk, rfl, rfl, hbe, hB⟩ := hrel
              obtain ⟨wo, rfl⟩ : ∃ wo, wo = wr := ⟨_, rfl⟩
              by_cases hlt : k < n
              · have hkI : (k : Int) < (n : Int) := by omega
                have hkl : k < l.length := by rw [HN.out]; exact hlt
                obtain ⟨bz, oz, rfl, hbz, hcz⟩ := tms_open HI.out (by omega)
                have HCZ := Lib.hid hcz
                have HKL := Lib.hid hkl
                clear hcz hkl
                go_wp2
                go_loopw [6, 8, 9] (fun b j _ wr => ∃ k' : Nat, ∃ best : Int, k' ≤ k ∧ b = .int .i64 best ∧ j = .int .i64 k' ∧ Hid (Pl.Be l m best k k') ∧ Below w3.heap.size w3 wr) (fun _ j _ _ => k - (intOf j).toNat)
                case atStart => exact ⟨0, best, Nat.zero_le _, rfl, rfl, hbe, hB⟩
                case round =>
                  clear hbe hB
                  obtain ⟨j, best', hj, rfl, rfl, hbe, hB⟩ := hrel
                  obtain ⟨wp, rfl⟩ : ∃ wp, wp = wr := ⟨_, rfl⟩
                  by_cases hjk : j < k
                  · have hjI : (j : Int) < (n : Int) := by omega
                    have hjl : j < l.length := by have := HKL.out; omega
                    have vi := HOK.out.vt k HKL.out
                    have vj := HOK.out.vt j hjl
                    obtain ⟨d, hd⟩ : ∃ d, Pl.ap (Pl.at' l k) (Pl.at' l j) = d := ⟨_, rfl⟩
                    have HD := Lib.hid (rapart_b (Pl.at' l k) (Pl.at' l j) (vt_wrap vi vj) (vt_wrap vj vi) d hd)
                    have HDD := Lib.hid hd
                    have hd0 : 0 ≤ d := by rw [← hd]; exact Pl.ap_nonneg _ _
                    have yi0 := fun e : Ext wp => e.cell (tms_cells hbz HCZ.out hB HKL.out).1
                    have yi1 := fun e : Ext wp => e.cell (tms_cells hbz HCZ.out hB HKL.out).2.1
                    have yi2 := fun e : Ext wp => e.cell (tms_cells hbz HCZ.out hB HKL.out).2.2.1
                    have yi3 := fun e : Ext wp => e.cell (tms_cells hbz HCZ.out hB HKL.out).2.2.2
                    have yk0 := fun e : Ext wp => e.cell (tms_cells hbz HCZ.out hB hjl).1
                    have yk1 := fun e : Ext wp => e.cell (tms_cells hbz HCZ.out hB hjl).2.1
                    have yk2 := fun e : Ext wp => e.cell (tms_cells hbz HCZ.out hB hjl).2.2.1
                    have yk3 := fun e : Ext wp => e.cell (tms_cells hbz HCZ.out hB hjl).2.2.2
                    have HJL := Lib.hid hjl
                    clear vi vj hd hjl
                    go_wp2
                    refine wp_region_ext (by kernel_rfl) (by kernel_rfl) ?_
                    repeat (go_big_quiet_step ((go_at_call 56; refine calls_ext (HD.out _))))
                    refine wpQuiet_nil ?_
                    rintro _ ⟨s, rfl⟩
                    have hB4 := hB.trans (s.h.mono hB.size)
                    clear hB yi0 yi1 yi2 yi3 yk0 yk1 yk2 yk3 HD
                    generalize s.w = wq at *
                    clear s
                    have yi1 := fun e : Ext wq => e.cell (tms_cells hbz HCZ.out hB4 HKL.out).2.1
                    have yi3 := fun e : Ext wq => e.cell (tms_cells hbz HCZ.out hB4 HKL.out).2.2.2
                    have yk1 := fun e : Ext wq => e.cell (tms_cells hbz HCZ.out hB4 HJL.out).2.1
                    have yk3 := fun e : Ext wq => e.cell (tms_cells hbz HCZ.out hB4 HJL.out).2.2.2
                    have HIq := Lib.hid (HI.out.below hB4)
                    have HBE := hbe
                    clear hbe
                    obtain ⟨x1, h1⟩ : ∃ x, decide ((Pl.at' l k).side ≠ (Pl.at' l j).side) = x := ⟨_, rfl⟩
                    obtain ⟨x2, h2⟩ : ∃ x, decide ((Pl.at' l k).col = (Pl.at' l j).col) = x := ⟨_, rfl⟩
                    have E1 : ((Pl.at' l k).side != (Pl.at' l j).side) = x1 := neB.trans h1
                    have E2 : ((Pl.at' l k).col == (Pl.at' l j).col) = x2 := eqB.trans h2
                    have H1 := Lib.hid h1
                    have H2 := Lib.hid h2
                    clear h1 h2
                    have hc : x1 = false ∨ (x1 = true ∧ x2 = false) ∨ (x1 = true ∧ x2 = true) := by cases x1 <;> cases x2 <;> simp
                    rcases hc with rfl | ⟨rfl, rfl⟩ | ⟨rfl, rfl⟩
                    · have HNX : Hid (Pl.Be l m best' k (j + 1)) := Lib.hid (HBE.out.skip (fun h => absurd h (of_decide_eq_false H1.out)))
                      go_wp2
                      refine wp_region_ext (by kernel_rfl) (by kernel_rfl) ?_
                      repeat (go_big_quiet_step (fail))
                      refine wpQuiet_nil ?_
                      rintro _ ⟨s, rfl⟩
                      have hB5 := hB4.trans (s.h.mono hB4.size)
                      clear yi1 yi3 yk1 yk3
                      go_wp2
                      go_roundw
                      case rel => exact ⟨j + 1, best', by omega, rfl, by go_num, HNX, hB5⟩
                      case measure => simp [intOf]; omega
                    · have HNX : Hid (Pl.Be l m best' k (j + 1)) := Lib.hid (HBE.out.skip (fun _ h => absurd h (of_decide_eq_false H2.out)))
                      go_wp2
                      refine wp_region_ext (by kernel_rfl) (by kernel_rfl) ?_
                      repeat (go_big_quiet_step (fail))
                      refine wpQuiet_nil ?_
                      rintro _ ⟨s, rfl⟩
                      have hB5 := hB4.trans (s.h.mono hB4.size)
                      clear yi1 yi3 yk1 yk3
                      go_wp2
                      go_roundw
                      case rel => exact ⟨j + 1, best', by omega, rfl, by go_num, HNX, hB5⟩
                      case measure => simp [intOf]; omega
                    · by_cases hlb : d < best'
                      · have hle := HBE.out.le
                        obtain ⟨Nd, hNd⟩ : ∃ N : Nat, (Pl.mt l d).length = N := ⟨_, rfl⟩
                        have hM := HMO.out d ⟨hd0, by omega⟩
                        rw [hNd] at hM
                        have HM := Lib.hid (fun (s : Ext wq) => hM s.w (HIq.out.below s.h))
                        have HND := Lib.hid hNd
                        clear hM hNd hle
                        by_cases hge : m ≤ (Nd : Int)
                        · have HNX : Hid (Pl.Be l m d k (j + 1)) := Lib.hid (by
                            have := HBE.out.take (k := j) (by rw [HDD.out]; exact hlb) (by rw [HDD.out, HND.out]; exact hge)
                            rw [HDD.out] at this
                            exact this)
                          go_wp2
                          refine wp_region_ext (by kernel_rfl) (by kernel_rfl) ?_
                          repeat (go_big_quiet_step ((go_at_call 60; refine calls_ext (HM.out _))))
                          refine wpQuiet_nil ?_
                          rintro _ ⟨s, rfl⟩
                          have hB5 := hB4.trans (s.h.mono hB4.size)
                          clear yi1 yi3 yk1 yk3
                          go_wp2
                          go_roundw
                          case rel => exact ⟨j + 1, d, by omega, rfl, by go_num, HNX, hB5⟩
                          case measure => simp [intOf]; omega
                        · have HNX : Hid (Pl.Be l m best' k (j + 1)) := Lib.hid (HBE.out.skip (fun _ _ _ => by rw [HDD.out, HND.out]; omega))
                          go_wp2
                          refine wp_region_ext (by kernel_rfl) (by kernel_rfl) ?_
                          repeat (go_big_quiet_step ((go_at_call 60; refine calls_ext (HM.out _))))
                          refine wpQuiet_nil ?_
                          rintro _ ⟨s, rfl⟩
                          have hB5 := hB4.trans (s.h.mono hB4.size)
                          clear yi1 yi3 yk1 yk3
                          go_wp2
                          go_roundw
                          case rel => exact ⟨j + 1, best', by omega, rfl, by go_num, HNX, hB5⟩
                          case measure => simp [intOf]; omega
                      · have HNX : Hid (Pl.Be l m best' k (j + 1)) := Lib.hid (HBE.out.skip (fun _ _ h => by rw [HDD.out] at h; exact absurd h hlb))
                        have hlbF : decide (d < best') = false := decide_eq_false hlb
                        go_wp2
                        refine wp_region_ext (by kernel_rfl) (by kernel_rfl) ?_
                        repeat (go_big_quiet_step (fail))
                        refine wpQuiet_nil ?_
                        rintro _ ⟨s, rfl⟩
                        have hB5 := hB4.trans (s.h.mono hB4.size)
                        clear yi1 yi3 yk1 yk3
                        go_wp2
                        go_roundw
                        case rel => exact ⟨j + 1, best', by omega, rfl, by go_num, HNX, hB5⟩
                        case measure => simp [intOf]; omega
                  · obtain rfl : j = k := by omega
                    have HNX : Hid (Pl.Be l m best' (j + 1) 0) := Lib.hid hbe.out.row
                    clear hbe
                    go_wp2
                    go_roundw
                    case rel => exact ⟨j + 1, best', by omega, rfl, by go_num, HNX, hB⟩
                    case measure => simp [intOf]; omega
              · obtain rfl : k = n := by omega
                go_wp2
                go_ret2
                refine ⟨_, _, rfl, .inr (.inr (.inr ⟨HX.out, by omega, ?_, rfl⟩)), hB3.trans (hB.mono hB3.size)⟩
                have := hbe.out
                rw [← HN.out] at this
                exact this.fin HOK.out hm1
end Go.Proofs.Ytdnfipeadoiepaa
