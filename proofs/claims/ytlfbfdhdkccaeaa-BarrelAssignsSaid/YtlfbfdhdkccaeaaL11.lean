/- BarrelAssigns. -/
import Derived.Test.YtlfbfdhdkccaeaaA3
import Derived.Test.YtlfbfdhdkccaeaaA4
namespace Go.Proofs.Ytlfbfdhdkccaeaa
open Go.RowKit Go.Shelf

set_option maxRecDepth 100000 in
set_option maxHeartbeats 8000000 in
theorem law_assigns (A : Option Addr) (l : List Pl.Bt) (c : Nat) (AR : Option Addr) (rows : List (List Int)) (cr : Nat) (hmc : rows.length ≤ cr) (hcm : cr ≤ maxLen) (x y : Int) (w : World) (hI : Bts w A l) (hR : RR inL 1 w AR rows) :
    Calls Try.prog 10 #[.slice A l.length c, .slice AR rows.length cr, .agg #[.int .i64 x, .int .i64 y]] w fun e w' => e = .returned (.bool true) ∧ Below w.heap.size w w' := by
  have hB0 := (Below.refl w.heap.size w).alloc (Nat.le_refl _) (.cells #[.int .i64 x, .int .i64 y] 52)
  have bP0 := Blk.new w 52 #[.int .i64 x, .int .i64 y]
  obtain ⟨wa, hwa⟩ : ∃ wa, wa = w.alloc (.cells #[.int .i64 x, .int .i64 y] 52) := ⟨_, rfl⟩
  rw [← hwa] at hB0 bP0
  have s0 := fun s : Ext wa => s.cell ((bP0.cell 0).trans rfl)
  have s1 := fun s : Ext wa => s.cell ((bP0.cell 1).trans rfl)
  have HI := Lib.hid hI
  have HR := Lib.hid hR
  have HS := Lib.hid sane_any
  obtain ⟨n, hn⟩ : ∃ n, l.length = n := ⟨_, rfl⟩
  obtain ⟨m, hm⟩ : ∃ m, rows.length = m := ⟨_, rfl⟩
  obtain ⟨v, hv⟩ : ∃ v, Pl.lng rows = v := ⟨_, rfl⟩
  have HL := Lib.hid (fun W hR => long_b AR rows cr m hm (by omega) hcm v hv W hR)
  have HLN : Hid (v = false → m ≤ 60 ∧ ∀ k, k < m → (rows.getD k []).length ≤ 60) := Lib.hid (fun h => by rw [← hm]; exact Pl.lng_no (hv.trans h))
  have H1 := Lib.hid (fun h6 hl W hI hR => Assign_any A l c n hn AR rows cr m hm h6 hl x y W hI hR)
  have H2 := Lib.hid (fun h6 hl W hI hR => rAssign_any A l c n hn AR rows cr m hm h6 hl x y W hI hR)
  rw [hn, hm]
  generalize Pl.asV l rows x y = V at *
  generalize Pl.asE l rows x y = e0 at *
  have HB0 := Lib.hid hB0
  clear hI hR hn hm hmc hcm hv bP0 hB0
  go_enter Try.func10, Try.ntmps10
  go_wp2_with fail
  rw [← hwa]
  clear hwa
  refine wp_region_ext (by kernel_rfl) (by kernel_rfl) ?_
  repeat (go_big_quiet_step (fail))
  refine wpQuiet_nil ?_
  rintro _ ⟨s, rfl⟩
  have hB := HB0.out.trans (s.h.mono HB0.out.size)
  clear s0 s1 HB0
  generalize s.w = w0 at *
  have HI0 := Lib.hid (HI.out.below hB)
  have HR0 := Lib.hid (HR.out.below hB)
  by_cases hw : (40 : Int) < (n : Int)
  · have HW := Lib.hid (wide_b A n c 40 true (by simp [hw]))
    go_wp2_with (first | (go_at_call 15; refine (HW.out _).mono ?_; rintro e w3 ⟨rfl, rfl⟩) | (go_at_call 16; refine (HS.out _).mono ?_; rintro e w4 ⟨rfl, hb⟩))
    go_ret
    exact ⟨rfl, hB.trans (hb.mono hB.size)⟩
  have HW := Lib.hid (wide_b A n c 40 false (by simp [hw]))
  clear hw
  cases v
  rotate_left
  · go_wp2_with (first | (go_at_call 15; refine (HW.out _).mono ?_; rintro e w3 ⟨rfl, rfl⟩) | (go_at_call 21; refine (HL.out _ HR0.out).mono ?_; rintro e w3 ⟨rfl, rfl⟩) | (go_at_call 16; refine (HS.out _).mono ?_; rintro e w4 ⟨rfl, hb⟩))
    go_ret
    exact ⟨rfl, hB.trans (hb.mono hB.size)⟩
  have HLL := Lib.hid (HLN.out rfl)
  clear HLN
  go_wp2_with (first | (go_at_call 15; refine (HW.out _).mono ?_; rintro e w3 ⟨rfl, rfl⟩) | (go_at_call 21; refine (HL.out _ HR0.out).mono ?_; rintro e w3 ⟨rfl, rfl⟩))
  refine (H1.out HLL.out.1 HLL.out.2 _ HI0.out HR0.out).mono ?_
  rintro e w1 ⟨v1, f1, rfl, hR1, hb1⟩
  have hB1 := hB.trans (hb1.mono hB.size)
  have HI1 := Lib.hid (HI.out.below hB1)
  have HRR1 := Lib.hid (HR.out.below hB1)
  have HR1 := Lib.hid hR1
  clear hR1 hb1 hB HI0 HR0
  go_wp2_with fail
  refine (H2.out HLL.out.1 HLL.out.2 _ HI1.out HRR1.out).mono ?_
  rintro e w2 ⟨v2, f2, rfl, hR2, hb2⟩
  have hB2 := hB1.trans (hb2.mono hB1.size)
  obtain ⟨A1, c1, hv1, ra, hl1, hm1, _⟩ := (HR1.out.below hb2).open encRn
  obtain ⟨A2, c2, hv2, rb, _⟩ := hR2.open encRn
  subst hv1
  subst hv2
  have HQ := Lib.hid (sameRuns_eq A1 A2 V c1 c2 _ rfl (by omega) w2 ra rb)
  clear ra rb hb2 HR1 hR2 HI1 HRR1 hB1 hl1 hm1
  generalize V.length = z at *
  go_wp2_with fail
  refine HQ.out.mono ?_
  rintro e w5 ⟨rfl, hb5⟩
  have hB5 := hB2.trans (hb5.mono hB2.size)
  clear hb5 hB2
  go_wp2_with fail
  refine (HS.out _).mono ?_
  rintro e w6 ⟨rfl, hb⟩
  have hB6 := hB5.trans (hb.mono hB5.size)
  go_wp2
  go_ret
  exact ⟨rfl, hB6⟩
end Go.Proofs.Ytlfbfdhdkccaeaa
