/- The law of tolerances. -/
import Derived.Test.YtdnfipeadoiepaaT2
import Derived.Test.YtdnfipeadoiepaaT3
import Derived.Test.YtdnfipeadoiepaaC1
namespace Go.Proofs.Ytdnfipeadoiepaa
open Go.RowKit Go.Shelf

set_option maxRecDepth 100000 in
set_option maxHeartbeats 8000000 in
theorem law_tolerances (A : Option Addr) (l : List Pl.Tm) (c : Nat) (m : Int) (w : World) (hI : Tms w A l) :
    Calls Try.prog 9 #[.slice A l.length c, .int .i64 m] w fun e w' => e = .returned (.bool true) ∧ Below w.heap.size w w' := by
  have HI := Lib.hid hI
  have HS := Lib.hid sane_any
  have HT := Lib.hid (fun (w' : World) hI => Tolerance_any A l c _ rfl m w' hI)
  have HRT := Lib.hid (fun (w' : World) hI => rTolerance_any A l c _ rfl m w' hI)
  have HM := Lib.hid (fun (tol : Int) (w' : World) hI => Most_any A l c _ rfl tol w' hI)
  generalize hn : l.length = n at *
  have HN := Lib.hid hn
  clear hI hn
  have hB0 := Below.refl w.heap.size w
  by_cases hw : (24 : Int) < (n : Int)
  · have HW := Lib.hid (wide_b A n c 24 true (by simp [hw]))
    go_enter Try.func9, Try.ntmps9
    go_wp2_with fail
    refine (HW.out _).mono ?_
    rintro e w3 ⟨rfl, rfl⟩
    go_wp2_with fail
    refine (HS.out _).mono ?_
    rintro e w4 ⟨rfl, hb⟩
    go_wp2
    go_ret
    exact ⟨rfl, hB0.trans (hb.mono hB0.size)⟩
  · have HW := Lib.hid (wide_b A n c 24 false (by simp [hw]))
    clear hw
    go_enter Try.func9, Try.ntmps9
    go_wp2_with fail
    refine (HW.out _).mono ?_
    rintro e w3 ⟨rfl, rfl⟩
    go_wp2_with fail
    refine (HT.out _ HI.out).mono ?_
    rintro e w1 ⟨t, r, rfl, htp, hb⟩
    have hB1 := hB0.trans (hb.mono hB0.size)
    have HI1 := Lib.hid (HI.out.below hb)
    have HTP := Lib.hid htp
    clear hb hB0 HI htp
    go_wp2_with fail
    refine (HRT.out _ HI1.out).mono ?_
    rintro e w2 ⟨t', r', rfl, htp', hb⟩
    obtain ⟨rfl, rfl⟩ := Pl.tp_one HTP.out htp'
    have hB2 := hB1.trans (hb.mono hB1.size)
    have HI2 := Lib.hid (HI1.out.below hb)
    clear hb hB1 HI1 htp'
    go_wp2_with fail
    refine (HS.out _).mono ?_
    rintro e w4 ⟨rfl, hb⟩
    have hB4 := hB2.trans (hb.mono hB2.size)
    have HI4 := Lib.hid (HI2.out.below hb)
    clear hb hB2 HI2 HT HRT HS HW
    by_cases hr : r = 0
    · subst hr
      obtain ⟨hv, hT⟩ := Pl.tp_ok HTP.out
      have HIT := Lib.hid hT
      have hck : Pl.ck l t = 0 := by unfold Pl.ck; rw [if_pos hv, if_pos (Pl.inB_true.2 ⟨hT.1, hT.2.1⟩)]
      have h1 := HM.out t
      rw [hck, show Pl.Mt l t = Pl.mt l t from if_pos hck] at h1
      obtain ⟨N, hN⟩ : ∃ N : Nat, (Pl.mt l t).length = N := ⟨_, rfl⟩
      rw [hN] at h1
      have H1 := Lib.hid h1
      have hge : ¬ (N : Int) < m := by rw [← hN]; have := hT.2.2.1; omega
      have ht0 : 0 ≤ t ∧ t ≤ 1000 := ⟨hT.1, hT.2.1⟩
      clear h1 hN hck hT HTP
      go_wp2_with fail
      refine (H1.out _ HI4.out).mono ?_
      rintro e w5 ⟨rfl, hb⟩
      have hB5 := hB4.trans (hb.mono hB4.size)
      have HI5 := Lib.hid (HI4.out.below hb)
      clear hb hB4 HI4 H1
      by_cases hz : t = 0
      · subst hz
        go_wp2
        go_ret
        exact ⟨rfl, hB5⟩
      · have hzb : (t == 0) = false := by simp [hz]
        have hck : Pl.ck l (t - 1) = 0 := by unfold Pl.ck; rw [if_pos hv, if_pos (Pl.inB_true.2 ⟨by omega, by omega⟩)]
        have h1 := HM.out (t - 1)
        rw [hck, show Pl.Mt l (t - 1) = Pl.mt l (t - 1) from if_pos hck] at h1
        have hlt := HIT.out.2.2.2 (t - 1) (by omega) (by omega)
        obtain ⟨N', hN⟩ : ∃ N : Nat, (Pl.mt l (t - 1)).length = N := ⟨_, rfl⟩
        rw [hN] at h1 hlt
        have H1 := Lib.hid h1
        have hwr : IntKind.i64.wrap (t - 1) = t - 1 := IntWalk.i64_in _ (by omega)
        clear h1 hN hck HIT hv
        go_wp2_with fail
        refine (H1.out _ HI5.out).mono ?_
        rintro e w6 ⟨rfl, hb⟩
        have hB6 := hB5.trans (hb.mono hB5.size)
        go_wp2
        go_ret
        exact ⟨rfl, hB6⟩
    · have hrb : (r != 0) = true := by simp [hr]
      go_wp2
      go_ret
      exact ⟨rfl, hB4⟩
end Go.Proofs.Ytdnfipeadoiepaa
