import Derived.Test.YtflkhjicgojcbaaM8
import Derived.Test.YtflkhjicgojcbaaL5
namespace Go.Proofs.Ytflkhjicgojcbaa
open Go.RowKit Go.Shelf

theorem fanK_bd {l : List Geo.XY} (h : AllIn l) (k : Nat) : -(200000000 * (k : Int)) ≤ Geo.fanK l k ∧ Geo.fanK l k ≤ 200000000 * (k : Int) := by
  induction k with
  | zero => simp [Geo.fanK]
  | succ k ih =>
    obtain ⟨a1, a2, a3, a4⟩ := in_all h 0
    obtain ⟨b1, b2, b3, b4⟩ := in_all h (k + 1)
    obtain ⟨c1, c2, c3, c4⟩ := in_all h (k + 2)
    rw [Geo.fanK]
    have m1 := mul_bd (a := (Geo.X l (k + 1)).1 - (Geo.X l 0).1) (b := (Geo.X l (k + 2)).2 - (Geo.X l 0).2) (A := 10000) (B := 10000) (by omega) (by omega) (by omega) (by omega)
    have m2 := mul_bd (a := (Geo.X l (k + 1)).2 - (Geo.X l 0).2) (b := (Geo.X l (k + 2)).1 - (Geo.X l 0).1) (A := 10000) (B := 10000) (by omega) (by omega) (by omega) (by omega)
    unfold Geo.Cross
    omega

set_option maxRecDepth 100000 in
set_option maxHeartbeats 4000000 in
theorem twice_any (b off c : Nat) (l : List Geo.XY) (h2 : 2 ≤ l.length) (h64 : l.length ≤ 64) (hin : AllIn l) (w : World) (hb : b < w.heap.size)
    (hc : ∀ k, k < l.length → w.cell? ⟨b, off + k * 2, none⟩ = some (.int .i64 (Geo.X l k).1) ∧ w.cell? ⟨b, off + k * 2 + 1, none⟩ = some (.int .i64 (Geo.X l k).2)) :
    Calls Try.prog 73 #[.slice (some ⟨b, off, none⟩) l.length c] w fun e w' => e = .returned (.int .i64 (Geo.areaK l l.length)) ∧ Below w.heap.size w w' := by
  have HC := Lib.hid hc
  have HIN := Lib.hid hin
  have HA := Lib.hid (Geo.area_fan l h2)
  rw [HA.out]
  obtain ⟨x1, x2, x3, x4⟩ := in_all hin 0
  clear hc hin
  go_enter Try.func73, Try.ntmps73
  go_wp2
  go_loopw [3, 4] (fun s i wr => ∃ k : Nat, k + 2 ≤ l.length ∧ i = .int .i64 (k + 2 : Nat) ∧ s = .int .i64 (Geo.fanK l k) ∧ Below w.heap.size w wr) (fun _ i _ => l.length - (intOf i).toNat)
  case atStart => exact ⟨0, by omega, rfl, rfl, Below.refl _ _⟩
  case round =>
    obtain ⟨k, hk, rfl, rfl, hB⟩ := hrel
    obtain ⟨f1, f2⟩ := fanK_bd HIN.out k
    by_cases hlt : k + 2 < l.length
    · have c1 : wr.cell? ⟨b, off, none⟩ = some (.int .i64 (Geo.X l 0).1) := (hB.cell (p := ⟨b, off, none⟩) hb).trans (by have := (HC.out 0 (by omega)).1; rwa [Nat.zero_mul, Nat.add_zero] at this)
      have c2 : wr.cell? ⟨b, off + 1, none⟩ = some (.int .i64 (Geo.X l 0).2) := (hB.cell (p := ⟨b, off + 1, none⟩) hb).trans (by have := (HC.out 0 (by omega)).2; rwa [Nat.zero_mul, Nat.add_zero] at this)
      have c3 : wr.cell? ⟨b, off + (k + 1) * 2, none⟩ = some (.int .i64 (Geo.X l (k + 1)).1) := (hB.cell (p := ⟨b, off + (k + 1) * 2, none⟩) hb).trans (HC.out (k + 1) (by omega)).1
      have c4 : wr.cell? ⟨b, off + (k + 1) * 2 + 1, none⟩ = some (.int .i64 (Geo.X l (k + 1)).2) := (hB.cell (p := ⟨b, off + (k + 1) * 2 + 1, none⟩) hb).trans (HC.out (k + 1) (by omega)).2
      have c5 : wr.cell? ⟨b, off + (k + 2) * 2, none⟩ = some (.int .i64 (Geo.X l (k + 2)).1) := (hB.cell (p := ⟨b, off + (k + 2) * 2, none⟩) hb).trans (HC.out (k + 2) (by omega)).1
      have c6 : wr.cell? ⟨b, off + (k + 2) * 2 + 1, none⟩ = some (.int .i64 (Geo.X l (k + 2)).2) := (hB.cell (p := ⟨b, off + (k + 2) * 2 + 1, none⟩) hb).trans (HC.out (k + 2) (by omega)).2
      obtain ⟨y1, y2, y3, y4⟩ := in_all HIN.out (k + 1)
      obtain ⟨z1, z2, z3, z4⟩ := in_all HIN.out (k + 2)
      have HF : Hid (Geo.fanK l (k + 1) = Geo.fanK l k + ((((Geo.X l (k + 1)).1 - (Geo.X l 0).1) * ((Geo.X l (k + 2)).2 - (Geo.X l 0).2)) - (((Geo.X l (k + 1)).2 - (Geo.X l 0).2) * ((Geo.X l (k + 2)).1 - (Geo.X l 0).1)))) := Lib.hid rfl
      have hF := fanK_bd HIN.out (k + 1)
      rw [HF.out] at hF
      have HW : Hid (wrap64 (Geo.fanK l k + ((((Geo.X l (k + 1)).1 - (Geo.X l 0).1) * ((Geo.X l (k + 2)).2 - (Geo.X l 0).2)) - (((Geo.X l (k + 1)).2 - (Geo.X l 0).2) * ((Geo.X l (k + 2)).1 - (Geo.X l 0).1)))) = Geo.fanK l (k + 1)) := Lib.hid (by rw [HF.out]; exact IntWalk.wrap64_in _ ⟨by omega, by omega⟩)
      clear hF
      have hB0 := hB
      go_wp2
      have d1 := fun s : Ext wr => s.cell c1
      have d2 := fun s : Ext wr => s.cell c2
      have d3 := fun s : Ext wr => s.cell c3
      have d4 := fun s : Ext wr => s.cell c4
      have d5 := fun s : Ext wr => s.cell c5
      have d6 := fun s : Ext wr => s.cell c6
      have g1 : IntKind.i64.wrap (((k + 2 : Nat) : Int) - 1) = ((k + 1 : Nat) : Int) := by rw [IntWalk.i64_in _ (by omega)]; omega
      have g2 : (0 : Int) ≤ ((k + 1 : Nat) : Int) := by omega
      have g3 : ((k + 1 : Nat) : Int) < (l.length : Int) := by omega
      have g4 : (0 : Int) ≤ ((k + 2 : Nat) : Int) := by omega
      have g5 : ((k + 2 : Nat) : Int) < (l.length : Int) := by omega
      have g6 : (0 : Int) < (l.length : Int) := by omega
      have g7 : 0 < l.length := by omega
      have g8 : k + 1 < l.length := by omega
      refine wp_region_ext (by kernel_rfl) (by kernel_rfl) ?_
      repeat (go_big_quiet_step ((go_at_call 62; refine calls_ext (cross_any _ _ _ _ _ _ (by omega) (by omega) (by omega) (by omega) (by omega) (by omega) (by omega) (by omega) (by omega) (by omega) (by omega) (by omega) _))))
      refine wpQuiet_nil ?_
      rintro _ ⟨s, rfl⟩
      rw [HW.out]
      clear g1 g2 g3 g4 g5 g6 g7 g8 d1 d2 d3 d4 d5 d6
      go_wp2
      go_roundw
      case rel => exact ⟨k + 1, by omega, by go_num, rfl, hB0.trans (s.h.mono hB0.size)⟩
      case measure => simp [intOf]; omega
    · obtain rfl : l.length - 2 = k := by omega
      go_wp2
      go_ret
      exact ⟨rfl, hB⟩

set_option maxRecDepth 100000 in
set_option maxHeartbeats 2000000 in
theorem rarea_any (A : Option Addr) (l : List Geo.XY) (c : Nat) (w : World) (hr : Pts w A l) :
    Calls Try.prog 28 #[.slice A l.length c] w fun e w' => e = okOr l (.int .i64 0) (.int .i64 (Geo.areaK l l.length)) ∧ Below w.heap.size w w' := by
  have HR := Lib.hid hr
  cases hv : validB l with
  | false =>
    have HV := Lib.hid hv
    have H := Lib.hid (okOr_no hv (.int .i64 0) (.int .i64 (Geo.areaK l l.length)))
    clear hv hr
    go_enter Try.func28, Try.ntmps28
    go_wp2_with (go_at_call 20; refine (rvalid_b _ _ _ _ HR.out false HV.out).mono ?_; rintro e w' ⟨rfl, hb'⟩)
    go_ret2
    exact ⟨by rw [H.out]; rfl, hb'⟩
  | true =>
    have HV := Lib.hid hv
    have H := Lib.hid (okOr_yes hv (.int .i64 0) (.int .i64 (Geo.areaK l l.length)))
    have hval := valid_of hv
    have h3 := hval.1
    have h64 := hval.2.1
    have HIN := Lib.hid hval.allin
    obtain ⟨b, off, rfl, hb, hc⟩ := pts_open hr (by omega)
    have HC := Lib.hid hc
    clear hv hval hr hc
    go_enter Try.func28, Try.ntmps28
    go_wp2_with fail
    refine (rvalid_b _ _ _ _ HR.out true HV.out).mono ?_
    rintro e w1 ⟨rfl, hb1⟩
    go_wp2_with fail
    refine (twice_any b off c l (by omega) h64 HIN.out w1 (Nat.lt_of_lt_of_le hb hb1.size) (fun k hk => ⟨(hb1.cell (p := ⟨b, off + k * 2, none⟩) hb).trans (HC.out k hk).1, (hb1.cell (p := ⟨b, off + k * 2 + 1, none⟩) hb).trans (HC.out k hk).2⟩)).mono ?_
    rintro e w2 ⟨rfl, hb2⟩
    go_wp2
    go_ret2
    exact ⟨by rw [H.out]; rfl, hb1.trans (hb2.mono hb1.size)⟩
end Go.Proofs.Ytflkhjicgojcbaa
