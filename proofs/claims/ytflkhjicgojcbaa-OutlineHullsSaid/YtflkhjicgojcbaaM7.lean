import Derived.Test.YtflkhjicgojcbaaM6
namespace Go.Proofs.Ytflkhjicgojcbaa
open Go.RowKit Go.Shelf

set_option maxRecDepth 100000 in
set_option maxHeartbeats 2000000 in
theorem ends_any (b off cap : Nat) (l : List Geo.XY) (h0 : 0 < l.length) (h64 : l.length ≤ 64) (w : World) (hb : b < w.heap.size)
    (hc : ∀ k, k < l.length → w.cell? ⟨b, off + k * 2, none⟩ = some (.int .i64 (Geo.X l k).1) ∧ w.cell? ⟨b, off + k * 2 + 1, none⟩ = some (.int .i64 (Geo.X l k).2)) :
    Calls Try.prog 64 #[.slice (some ⟨b, off, none⟩) l.length cap] w fun e w' =>
      e = .returned (.tuple #[.agg #[.int .i64 (lowP l l.length).1, .int .i64 (lowP l l.length).2], .agg #[.int .i64 (highP l l.length).1, .int .i64 (highP l l.length).2]]) ∧ Below w.heap.size w w' := by
  have HC := Lib.hid hc
  have c1 := (hc 0 h0).1
  have c2 := (hc 0 h0).2
  simp only [Nat.zero_mul, Nat.add_zero] at c1 c2
  clear hc
  go_enter Try.func64, Try.ntmps64
  go_wp2
  go_region
  have bL := ((Blk.new w 38 (xyA (Geo.X l 0))).alloc (.cells (xyA (Geo.X l 0)) 38)).drew
  have bH := (Blk.new (w.alloc (.cells (xyA (Geo.X l 0)) 38)) 38 (xyA (Geo.X l 0))).drew
  rw [World.size_alloc] at bH
  have hB0 : Below w.heap.size w ((w.alloc (.cells (xyA (Geo.X l 0)) 38)).alloc (.cells (xyA (Geo.X l 0)) 38)).drew := (((Below.refl _ w).alloc (Nat.le_refl _) _).alloc (by simp) _).drew
  unfold xyA at bL bH hB0
  generalize ((w.alloc (.cells #[.int .i64 (Geo.X l 0).1, .int .i64 (Geo.X l 0).2] 38)).alloc (.cells #[.int .i64 (Geo.X l 0).1, .int .i64 (Geo.X l 0).2] 38)).drew = W0 at *
  clear c1 c2
  go_wp2
  go_loopw [14] (fun i wr => ∃ k : Nat, k ≤ l.length ∧ i = .int .i64 k ∧ (Blk wr w.heap.size 38 #[.int .i64 (lowP l k).1, .int .i64 (lowP l k).2] ∧ Blk wr (w.heap.size + 1) 38 #[.int .i64 (highP l k).1, .int .i64 (highP l k).2]) ∧ Below w.heap.size w wr) (fun i _ => l.length - (intOf i).toNat)
  case atStart => exact ⟨0, Nat.zero_le _, rfl, ⟨bL, bH⟩, hB0⟩
  case round =>
    clear bL bH hB0
    obtain ⟨k, hk, rfl, ⟨bL, bH⟩, hB⟩ := hrel
    by_cases hlt : k < l.length
    · have c1 : wr.cell? ⟨b, off + k * 2, none⟩ = some (.int .i64 (Geo.X l k).1) := (hB.cell (p := ⟨b, off + k * 2, none⟩) hb).trans (HC.out k hlt).1
      have c2 : wr.cell? ⟨b, off + k * 2 + 1, none⟩ = some (.int .i64 (Geo.X l k).2) := (hB.cell (p := ⟨b, off + k * 2 + 1, none⟩) hb).trans (HC.out k hlt).2
      have q1 := bL.cell 0
      have q2 := bL.cell 1
      have q3 := bL.frozen 0
      have q4 := bL.frozen 1
      have r1 := bH.cell 0
      have r2 := bH.cell 1
      have r3 := bH.frozen 0
      have r4 := bH.frozen 1
      have hl1 := bL.lt
      have hl2 := bH.lt
      simp only [List.getElem?_toArray, List.getElem?_cons_zero, List.getElem?_cons_succ] at q1 q2 r1 r2
      have hbl : b < wr.heap.size := Nat.lt_of_lt_of_le hb hB.size
      go_wp2
      go_roundw
      case rel =>
        refine ⟨k + 1, by omega, by go_num, ⟨?_, ?_⟩, ?_⟩
        · exact ((((bL.set_ 0 _).set_ 1 _).far (p := ⟨w.heap.size + 1, 0, none⟩) (by simp) _).far (p := ⟨w.heap.size + 1, 1, none⟩) (by simp) _).alloc _
        · exact ((((bH.far (p := ⟨w.heap.size, 0, none⟩) (by simp) _).far (p := ⟨w.heap.size, 1, none⟩) (by simp) _).set_ 0 _).set_ 1 _).alloc _
        · exact ((((hB.setCell (p := ⟨w.heap.size, 0, none⟩) (by simp) _).setCell (p := ⟨w.heap.size, 1, none⟩) (by simp) _).setCell (p := ⟨w.heap.size + 1, 0, none⟩) (by simp) _).setCell (p := ⟨w.heap.size + 1, 1, none⟩) (by simp) _).alloc (by simp; exact hB.size) _
      case measure => simp [intOf]; omega
    · obtain rfl : k = l.length := by omega
      have q1 := bL.cell 0
      have q2 := bL.cell 1
      have q3 := bL.frozen 0
      have q4 := bL.frozen 1
      have r1 := bH.cell 0
      have r2 := bH.cell 1
      have r3 := bH.frozen 0
      have r4 := bH.frozen 1
      have hl1 := bL.lt
      have hl2 := bH.lt
      simp only [List.getElem?_toArray, List.getElem?_cons_zero, List.getElem?_cons_succ] at q1 q2 r1 r2
      go_wp2
      go_region
      go_wp2
      refine ⟨rfl, .tuple #[.agg #[.int .i64 (lowP l l.length).1, .int .i64 (lowP l l.length).2], .agg #[.int .i64 (highP l l.length).1, .int .i64 (highP l l.length).2]], ?_, ?_⟩
      · simp [results, Try.f64, go_sem, q1, q2, r1, r2]
      · exact ⟨rfl, ((((hB.setCell (p := ⟨w.heap.size, 0, none⟩) (by simp) _).setCell (p := ⟨w.heap.size, 1, none⟩) (by simp) _).setCell (p := ⟨w.heap.size + 1, 0, none⟩) (by simp) _).setCell (p := ⟨w.heap.size + 1, 1, none⟩) (by simp) _).drew⟩

theorem lowP_bd {l : List Geo.XY} (h : AllIn l) (k : Nat) : Geo.In (lowP l k) := by
  induction k with
  | zero => exact in_all h 0
  | succ k ih =>
    have := in_all h k
    unfold Geo.In at *
    rw [lowP]; unfold mnP
    dsimp only
    split <;> split <;> omega
theorem highP_bd {l : List Geo.XY} (h : AllIn l) (k : Nat) : Geo.In (highP l k) := by
  induction k with
  | zero => exact in_all h 0
  | succ k ih =>
    have := in_all h k
    unfold Geo.In at *
    rw [highP]; unfold mxP
    dsimp only
    split <;> split <;> omega

def boxA (l : List Geo.XY) : Int := (highP l l.length).1 - (lowP l l.length).1
def boxB (l : List Geo.XY) : Int := (highP l l.length).2 - (lowP l l.length).2

set_option maxHeartbeats 2000000 in
theorem rbox_any (A : Option Addr) (l : List Geo.XY) (c : Nat) (w : World) (hr : Pts w A l) :
    Calls Try.prog 24 #[.slice A l.length c] w fun e w' => e = okOr3 l (.int .i64 (boxA l)) (.int .i64 (boxB l)) ∧ Below w.heap.size w w' := by
  have HR := Lib.hid hr
  cases hv : validB l with
  | false =>
    have HV := Lib.hid hv
    have H := Lib.hid (okOr3_no hv (.int .i64 (boxA l)) (.int .i64 (boxB l)))
    clear hv hr
    go_enter Try.func24, Try.ntmps24
    go_wp2_with (go_at_call 20; refine (rvalid_b _ _ _ _ HR.out false HV.out).mono ?_; rintro e w' ⟨rfl, hb'⟩)
    go_ret3
    exact ⟨by rw [H.out]; rfl, hb'⟩
  | true =>
    have HV := Lib.hid hv
    have H := Lib.hid (okOr3_yes hv (.int .i64 (boxA l)) (.int .i64 (boxB l)))
    have hval := valid_of hv
    have h3 := hval.1
    have h64 := hval.2.1
    obtain ⟨a1, a2, a3, a4⟩ := lowP_bd hval.allin l.length
    obtain ⟨a5, a6, a7, a8⟩ := highP_bd hval.allin l.length
    have HA : Hid (boxA l = (highP l l.length).1 - (lowP l l.length).1 ∧ boxB l = (highP l l.length).2 - (lowP l l.length).2) := Lib.hid ⟨rfl, rfl⟩
    clear hv hval
    rcases hr with h0 | ⟨b, off, rfl, hb, hc⟩
    · rw [h0] at h3; simp at h3
    have HC := Lib.hid hc
    clear hc
    go_enter Try.func24, Try.ntmps24
    go_wp2_with fail
    refine (rvalid_b _ _ _ _ HR.out true HV.out).mono ?_
    rintro e w1 ⟨rfl, hb1⟩
    go_wp2_with fail
    refine (ends_any b off c l (by omega) h64 w1 (Nat.lt_of_lt_of_le hb hb1.size) (fun k hk => ⟨(hb1.cell (p := ⟨b, off + k * 2, none⟩) hb).trans (HC.out k hk).1, (hb1.cell (p := ⟨b, off + k * 2 + 1, none⟩) hb).trans (HC.out k hk).2⟩)).mono ?_
    rintro e w2 ⟨rfl, hb2⟩
    generalize lowP l l.length = lo at *
    generalize highP l l.length = hi at *
    go_wp2
    have hB2 := hb1.trans (hb2.mono hb1.size)
    have bL := (Blk.new w2 38 #[.int .i64 lo.1, .int .i64 lo.2]).alloc (.cells #[.int .i64 hi.1, .int .i64 hi.2] 38)
    have bH := Blk.new (w2.alloc (.cells #[.int .i64 lo.1, .int .i64 lo.2] 38)) 38 #[.int .i64 hi.1, .int .i64 hi.2]
    rw [World.size_alloc] at bH
    have hB3 := (hB2.alloc hB2.size (.cells #[.int .i64 lo.1, .int .i64 lo.2] 38)).alloc (by simp; have := hB2.size; omega) (.cells #[.int .i64 hi.1, .int .i64 hi.2] 38)
    generalize (w2.alloc (.cells #[.int .i64 lo.1, .int .i64 lo.2] 38)).alloc (.cells #[.int .i64 hi.1, .int .i64 hi.2] 38) = w3 at *
    have q1 := bL.cell 0
    have q2 := bL.cell 1
    have q3 := bH.cell 0
    have q4 := bH.cell 1
    simp only [List.getElem?_toArray, List.getElem?_cons_zero, List.getElem?_cons_succ] at q1 q2 q3 q4
    have z1 := fun s : Ext w3 => s.cell q1
    have z2 := fun s : Ext w3 => s.cell q2
    have z3 := fun s : Ext w3 => s.cell q3
    have z4 := fun s : Ext w3 => s.cell q4
    refine wp_region_ext (by kernel_rfl) (by kernel_rfl) ?_
    repeat (go_big_quiet_step (fail))
    refine wpQuiet_nil ?_
    rintro _ ⟨s, rfl⟩
    go_wp2
    go_ret3
    exact ⟨by rw [H.out, HA.out.1, HA.out.2]; rfl, hB3.trans (s.h.mono hB3.size)⟩

set_option maxHeartbeats 2000000 in
theorem dbox_any (A : Option Addr) (l : List Geo.XY) (c : Nat) (w : World) (hr : Pts w A l) :
    Calls Try.prog 23 #[.slice A l.length c] w fun e w' => e = okOr3 l (.int .i64 (boxA l)) (.int .i64 (boxB l)) ∧ Below w.heap.size w w' := by
  have HR := Lib.hid hr
  cases hv : validB l with
  | false =>
    have HV := Lib.hid hv
    have H := Lib.hid (okOr3_no hv (.int .i64 (boxA l)) (.int .i64 (boxB l)))
    clear hv hr
    go_enter Try.func23, Try.ntmps23
    go_wp2_with (go_at_call 19; refine (dvalid_b _ _ _ _ HR.out false HV.out).mono ?_; rintro e w' ⟨rfl, hb'⟩)
    go_ret3
    exact ⟨by rw [H.out]; rfl, hb'⟩
  | true =>
    have HV := Lib.hid hv
    have H := Lib.hid (okOr3_yes hv (.int .i64 (boxA l)) (.int .i64 (boxB l)))
    have hval := valid_of hv
    have h3 := hval.1
    have h64 := hval.2.1
    obtain ⟨a1, a2, a3, a4⟩ := lowP_bd hval.allin l.length
    obtain ⟨a5, a6, a7, a8⟩ := highP_bd hval.allin l.length
    have HA : Hid (boxA l = (highP l l.length).1 - (lowP l l.length).1 ∧ boxB l = (highP l l.length).2 - (lowP l l.length).2) := Lib.hid ⟨rfl, rfl⟩
    clear hv hval
    rcases hr with h0 | ⟨b, off, rfl, hb, hc⟩
    · rw [h0] at h3; simp at h3
    have HC := Lib.hid hc
    clear hc
    go_enter Try.func23, Try.ntmps23
    go_wp2_with fail
    refine (dvalid_b _ _ _ _ HR.out true HV.out).mono ?_
    rintro e w1 ⟨rfl, hb1⟩
    go_wp2_with fail
    refine (bounds_any b off c l (by omega) h64 w1 (Nat.lt_of_lt_of_le hb hb1.size) (fun k hk => ⟨(hb1.cell (p := ⟨b, off + k * 2, none⟩) hb).trans (HC.out k hk).1, (hb1.cell (p := ⟨b, off + k * 2 + 1, none⟩) hb).trans (HC.out k hk).2⟩)).mono ?_
    rintro e w2 ⟨rfl, hb2⟩
    generalize lowP l l.length = lo at *
    generalize highP l l.length = hi at *
    go_wp2
    have hB2 := hb1.trans (hb2.mono hb1.size)
    have bL := (Blk.new w2 38 #[.int .i64 lo.1, .int .i64 lo.2]).alloc (.cells #[.int .i64 hi.1, .int .i64 hi.2] 38)
    have bH := Blk.new (w2.alloc (.cells #[.int .i64 lo.1, .int .i64 lo.2] 38)) 38 #[.int .i64 hi.1, .int .i64 hi.2]
    rw [World.size_alloc] at bH
    have hB3 := (hB2.alloc hB2.size (.cells #[.int .i64 lo.1, .int .i64 lo.2] 38)).alloc (by simp; have := hB2.size; omega) (.cells #[.int .i64 hi.1, .int .i64 hi.2] 38)
    generalize (w2.alloc (.cells #[.int .i64 lo.1, .int .i64 lo.2] 38)).alloc (.cells #[.int .i64 hi.1, .int .i64 hi.2] 38) = w3 at *
    have q1 := bL.cell 0
    have q2 := bL.cell 1
    have q3 := bH.cell 0
    have q4 := bH.cell 1
    simp only [List.getElem?_toArray, List.getElem?_cons_zero, List.getElem?_cons_succ] at q1 q2 q3 q4
    have z1 := fun s : Ext w3 => s.cell q1
    have z2 := fun s : Ext w3 => s.cell q2
    have z3 := fun s : Ext w3 => s.cell q3
    have z4 := fun s : Ext w3 => s.cell q4
    refine wp_region_ext (by kernel_rfl) (by kernel_rfl) ?_
    repeat (go_big_quiet_step (fail))
    refine wpQuiet_nil ?_
    rintro _ ⟨s, rfl⟩
    go_wp2
    go_ret3
    exact ⟨by rw [H.out, HA.out.1, HA.out.2]; rfl, hB3.trans (s.h.mono hB3.size)⟩

noncomputable def blankV (l : List Geo.XY) (br pu : Int) : Int × Int :=
  if validB l = true then (if (0 ≤ br ∧ br ≤ 20000) ∧ (0 ≤ pu ∧ pu ≤ 20000) then ((Geo.csq (4 * farK l l.length) : Int) + (if boxA l + br - pu < -(boxA l + br - pu) then -(boxA l + br - pu) else boxA l + br - pu) + 200, 0) else (0, 2)) else (0, 10)
theorem blankV_no {l : List Geo.XY} (h : validB l = false) (br pu : Int) : blankV l br pu = (0, 10) := by unfold blankV; rw [h]; rfl
theorem blankV_arg {l : List Geo.XY} (h : validB l = true) {br pu : Int} (hn : ¬ ((0 ≤ br ∧ br ≤ 20000) ∧ (0 ≤ pu ∧ pu ≤ 20000))) : blankV l br pu = (0, 2) := by unfold blankV; rw [if_pos h, if_neg hn]
theorem blankV_ok {l : List Geo.XY} (h : validB l = true) {br pu : Int} (hn : (0 ≤ br ∧ br ≤ 20000) ∧ (0 ≤ pu ∧ pu ≤ 20000)) : blankV l br pu = ((Geo.csq (4 * farK l l.length) : Int) + (if boxA l + br - pu < -(boxA l + br - pu) then -(boxA l + br - pu) else boxA l + br - pu) + 200, 0) := by unfold blankV; rw [if_pos h, if_pos hn]
end Go.Proofs.Ytflkhjicgojcbaa
