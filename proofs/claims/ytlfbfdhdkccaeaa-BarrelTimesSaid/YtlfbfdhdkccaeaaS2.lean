/- timed, of the document; Stage, of the program and of the document. -/
import Derived.Test.YtlfbfdhdkccaeaaS1
namespace Go.Proofs.Ytlfbfdhdkccaeaa
open Go.RowKit Go.Shelf Go.Sort

theorem wrap_no2 {z f : Int} (h0 : -9223372036854776808 ≤ z) (h1 : z ≤ 9223372036854775807) (hf : f ≤ z + 1000) (hne : z ≠ f) : (IntKind.i64.wrap z == f) = false := by
  rw [beq_eq_false_iff_ne]
  intro e
  by_cases h : -9223372036854775808 ≤ z
  · rw [IntWalk.i64_in _ (by omega)] at e
    exact hne e
  · rw [IntKind.wrap_i64] at e
    omega

set_option maxRecDepth 100000 in
set_option maxHeartbeats 4000000 in
theorem timed_b (A : Option Addr) (l : List Pl.Bt) (c n q : Nat) (hn : l.length = n) (hq : q < n) (E : Pl.Bt) (hE : Pl.at' l q = E) (hvb : Pl.Vb E) (r : Pl.Rn) (hrb : r.b = q) (hrw : Pl.Rw r) (cl : Int) (hc0 : 0 ≤ cl) (hc1 : cl ≤ 100) (v : Bool) (hv : Pl.er E r cl = v) (w : World) (hI : Bts w A l) :
    Calls Try.prog 76 #[.slice A n c, .agg (rnA r), .int .i64 cl] w fun e w' => e = .returned (.bool v) ∧ Below w.heap.size w w' := by
  obtain ⟨bz, oz, rfl, hbz, hcz⟩ := bts_open hI (by omega)
  have hB := (Below.refl w.heap.size w).alloc (Nat.le_refl _) (.cells (rnA r) 66)
  have r1 := bts_cells hbz hcz hB (i := q) (by omega)
  rw [hE] at r1
  have bR := Blk.new w 66 (rnA r)
  have hqI : (q : Int) < (n : Int) := by omega
  clear hcz hI hn hE
  have q0 := bR.cell 0
  obtain ⟨⟨rb, rf, rt, rc⟩, hre⟩ : ∃ r', r = r' := ⟨r, rfl⟩
  subst hre
  obtain rfl : rb = (q : Int) := hrb
  obtain ⟨x, hx⟩ : ∃ x, Pl.hc rc cl = x := ⟨_, rfl⟩
  have HX : Hid (x = if rc = true then cl else 0) := Lib.hid hx.symm
  have HV : Hid (v = (decide (rf ≤ rt) && decide (rt - rf = x + Pl.len E))) := Lib.hid (by rw [← hv, ← hx]; rfl)
  obtain ⟨_, ⟨f0, f1⟩, t0, t1⟩ := hrw
  change -9223372036854775808 ≤ rf at f0
  change rf ≤ 9223372036854775807 at f1
  change -9223372036854775808 ≤ rt at t0
  change rt ≤ 9223372036854775807 at t1
  obtain ⟨l0, l1⟩ := hvb.len0
  have HHB := Lib.hid (fun W => hours_b E hvb W)
  clear hx hv hvb
  generalize Pl.len E = LE at *
  have k0 : IntKind.i64.wrap (LE + cl) = LE + cl := IntWalk.i64_in _ (by omega)
  go_enter Try.func76, Try.ntmps76
  go_wp2_with (refine ldm_bt r1 rfl _ rfl rfl ?_)
  refine (HHB.out _).mono ?_
  rintro e w1 ⟨rfl, hb1⟩
  have hB1 := hB.trans (hb1.mono hB.size)
  have bR1 := bR.below hb1 bR.lt
  have s1 := bR1.cell 1
  have s2 := bR1.cell 2
  have s3 := bR1.cell 3
  clear hb1 bR bR1 r1 q0 hB

  cases rc

  · have HV2 : Hid (v = (decide (rf ≤ rt) && decide (rt - rf = LE))) := Lib.hid (by rw [HV.out, HX.out]; simp [Int.add_comm])
    clear HV HX
    obtain ⟨N, hN⟩ : ∃ N, LE = N := ⟨_, rfl⟩
    rw [hN] at HV2
    have hN0 : 0 ≤ N ∧ N ≤ 500 := by omega
    obtain ⟨hN0, hN1⟩ := hN0
    by_cases h1 : rf ≤ rt
    rotate_left
    · have HF : Hid (v = false) := Lib.hid (by rw [HV2.out]; simp [h1])
      have d1 : decide (rf ≤ rt) = false := by simp [h1]
      clear hN
      go_wp2
      go_ret
      exact ⟨by rw [HF.out]; rfl, hB1⟩
    by_cases h2 : rt - rf = N
    · have HF : Hid (v = true) := Lib.hid (by rw [HV2.out]; simp [h1, h2])
      obtain rfl : rf = rt - N := by omega
      have k1 : IntKind.i64.wrap (rt - N) = rt - N := IntWalk.i64_in _ (by omega)
      subst hN
      clear h2
      go_wp2
      go_ret
      exact ⟨by rw [HF.out]; rfl, hB1⟩
    · have HF : Hid (v = false) := Lib.hid (by rw [HV2.out]; simp [h2])
      have k1 := wrap_no2 (z := rt - N) (f := rf) (by omega) (by omega) (by omega) (by omega)
      rw [IntWalk.i64_left] at k1
      subst hN
      clear h2
      go_wp2
      go_ret
      exact ⟨by rw [HF.out]; rfl, hB1⟩
  · have HV2 : Hid (v = (decide (rf ≤ rt) && decide (rt - rf = LE + cl))) := Lib.hid (by rw [HV.out, HX.out]; simp [Int.add_comm])
    clear HV HX
    obtain ⟨N, hN⟩ : ∃ N, LE + cl = N := ⟨_, rfl⟩
    rw [hN] at HV2
    have hN0 : 0 ≤ N ∧ N ≤ 500 := by omega
    obtain ⟨hN0, hN1⟩ := hN0
    by_cases h1 : rf ≤ rt
    rotate_left
    · have HF : Hid (v = false) := Lib.hid (by rw [HV2.out]; simp [h1])
      have d1 : decide (rf ≤ rt) = false := by simp [h1]
      clear hN
      go_wp2
      go_ret
      exact ⟨by rw [HF.out]; rfl, hB1⟩
    by_cases h2 : rt - rf = N
    · have HF : Hid (v = true) := Lib.hid (by rw [HV2.out]; simp [h1, h2])
      obtain rfl : rf = rt - N := by omega
      have k1 : IntKind.i64.wrap (rt - N) = rt - N := IntWalk.i64_in _ (by omega)
      subst hN
      clear h2
      go_wp2
      go_ret
      exact ⟨by rw [HF.out]; rfl, hB1⟩
    · have HF : Hid (v = false) := Lib.hid (by rw [HV2.out]; simp [h2])
      have k1 := wrap_no2 (z := rt - N) (f := rf) (by omega) (by omega) (by omega) (by omega)
      rw [IntWalk.i64_left] at k1
      subst hN
      clear h2
      go_wp2
      go_ret
      exact ⟨by rw [HF.out]; rfl, hB1⟩

end Go.Proofs.Ytlfbfdhdkccaeaa
