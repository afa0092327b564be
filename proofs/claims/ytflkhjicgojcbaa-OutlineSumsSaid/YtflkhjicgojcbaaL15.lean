import Derived.Test.YtflkhjicgojcbaaG3
import Derived.Deep.RegionHeld3
namespace Go.Proofs.Ytflkhjicgojcbaa
open Go.RowKit Go.Shelf

/-- the middle of the box, rounded down -/
def midP (l : List Geo.XY) : Geo.XY := (((lowP l l.length).1 + (highP l l.length).1) / 2, ((lowP l l.length).2 + (highP l l.length).2) / 2)

set_option maxRecDepth 100000 in
set_option maxHeartbeats 4000000 in
theorem dcentred_any (A : Option Addr) (l : List Geo.XY) (c : Nat) (w : World) (hP : Pts w A l) :
    Calls Try.prog 25 #[.slice A l.length c] w fun e w' => ListErr w (lstV l (l.map (subXY (midP l)))).1 (lstV l (l.map (subXY (midP l)))).2 e w' := by
  have HP := Lib.hid hP
  cases hv : validB l with
  | false =>
    have HV := Lib.hid hv
    rw [lstV_no hv]
    clear hv hP
    unfold ListErr
    go_enter Try.func25, Try.ntmps25
    go_wp2_with (go_at_call 19; refine (dvalid_b _ _ _ _ HP.out false HV.out).mono ?_; rintro e w' ⟨rfl, hb'⟩)
    go_ret2
    exact ⟨_, rfl, own_nil' _ _, hb'⟩
  | true =>
    have HV := Lib.hid hv
    have hval := valid_of hv
    have h3 := hval.1
    have h64 := hval.2.1
    obtain ⟨a1, a2, a3, a4⟩ := lowP_bd hval.allin l.length
    obtain ⟨a5, a6, a7, a8⟩ := highP_bd hval.allin l.length
    have HIN := Lib.hid hval.allin
    rw [lstV_ok hv]
    obtain ⟨mi, hmi⟩ : ∃ m, m = midP l := ⟨_, rfl⟩
    have HM : Hid (mi = (((lowP l l.length).1 + (highP l l.length).1) / 2, ((lowP l l.length).2 + (highP l l.length).2) / 2)) := Lib.hid hmi
    rw [← hmi]
    clear hv hval hmi
    unfold ListErr
    obtain ⟨b, off, rfl, hb, hc⟩ := pts_open hP (by omega)
    have HC := Lib.hid hc
    clear hc hP
    go_enter Try.func25, Try.ntmps25
    go_wp2_with fail
    refine (dvalid_b _ _ _ _ HP.out true HV.out).mono ?_
    rintro e w1 ⟨rfl, hb1⟩
    go_wp2_with fail
    refine (bounds_any b off c l (by omega) h64 w1 (Nat.lt_of_lt_of_le hb hb1.size) (fun k hk => ⟨(hb1.cell (p := ⟨b, off + k * 2, none⟩) hb).trans (HC.out k hk).1, (hb1.cell (p := ⟨b, off + k * 2 + 1, none⟩) hb).trans (HC.out k hk).2⟩)).mono ?_
    rintro e w2 ⟨rfl, hb2⟩
    generalize lowP l l.length = lo at *
    generalize highP l l.length = hi at *
    go_wp2_with fail
    have hB2 := hb1.trans (hb2.mono hb1.size)
    have bL := (Blk.new w2 38 #[.int .i64 lo.1, .int .i64 lo.2]).alloc (.cells #[.int .i64 hi.1, .int .i64 hi.2] 38)
    have bH := Blk.new (w2.alloc (.cells #[.int .i64 lo.1, .int .i64 lo.2] 38)) 38 #[.int .i64 hi.1, .int .i64 hi.2]
    rw [World.size_alloc] at bH
    have hB3 := (hB2.alloc hB2.size (.cells #[.int .i64 lo.1, .int .i64 lo.2] 38)).alloc (by simp; have := hB2.size; omega) (.cells #[.int .i64 hi.1, .int .i64 hi.2] 38)
    generalize (w2.alloc (.cells #[.int .i64 lo.1, .int .i64 lo.2] 38)).alloc (.cells #[.int .i64 hi.1, .int .i64 hi.2] 38) = w3 at *
    have HQ : Hid ((-20000 ≤ mi.1 ∧ mi.1 ≤ 20000) ∧ -20000 ≤ mi.2 ∧ mi.2 ≤ 20000) := Lib.hid (by rw [HM.out]; dsimp only; omega)
    have HM1 : Hid ((lo.1 + hi.1) / 2 = mi.1) := Lib.hid (by rw [HM.out])
    have HM2 : Hid ((lo.2 + hi.2) / 2 = mi.2) := Lib.hid (by rw [HM.out])
    have e1 : IntKind.i64.wrap (lo.1 + hi.1) = lo.1 + hi.1 := IntWalk.i64_in _ (by omega)
    have e2 : IntKind.i64.wrap (lo.2 + hi.2) = lo.2 + hi.2 := IntWalk.i64_in _ (by omega)
    have q1 := bL.cell 0
    have q2 := bL.cell 1
    have q3 := bH.cell 0
    have q4 := bH.cell 1
    have lt2 : w2.heap.size + 1 < w3.heap.size := bH.lt
    simp only [List.getElem?_toArray, List.getElem?_cons_zero, List.getElem?_cons_succ] at q1 q2 q3 q4
    have ne1 : ¬ w2.heap.size = w3.heap.size := by omega
    have ne2 : ¬ w2.heap.size + 1 = w3.heap.size := by omega
    have ne3 : ¬ w3.heap.size = w2.heap.size := by omega
    have ne4 : ¬ w3.heap.size = w2.heap.size + 1 := by omega
    go_region_held3 (fun w' => w'.cell? ⟨w2.heap.size, 0, none⟩ = some (.int .i64 lo.1) ∧ w'.cell? ⟨w2.heap.size, 1, none⟩ = some (.int .i64 lo.2) ∧ w'.cell? ⟨w2.heap.size + 1, 0, none⟩ = some (.int .i64 hi.1) ∧ w'.cell? ⟨w2.heap.size + 1, 1, none⟩ = some (.int .i64 hi.2)) (go_keep)
      (first | (go_at_call 65; refine (dhalf_any _ _).mono ?_; rintro e w' ⟨rfl, rfl⟩))
    all_goals (
      clear e1 e2 q1 q2 q3 q4
      rw [HM1.out, HM2.out]
      have bM := (Blk.new w3 38 #[.int .i64 mi.1, .int .i64 mi.2]).drew
      have hB4 := (hB3.alloc hB3.size (.cells #[.int .i64 mi.1, .int .i64 mi.2] 38)).drew
      generalize hW4 : (w3.alloc (.cells #[.int .i64 mi.1, .int .i64 mi.2] 38)).drew = w4 at bM hB4 ⊢
      clear hW4 bL bH
      go_wp2_with fail
      refine (changed67 b off c l w3.heap.size mi HQ.out h64 HIN.out w4 (Nat.lt_of_lt_of_le hb hB4.size) (fun k hk => ⟨(hB4.cell (p := ⟨b, off + k * 2, none⟩) hb).trans (HC.out k hk).1, (hB4.cell (p := ⟨b, off + k * 2 + 1, none⟩) hb).trans (HC.out k hk).2⟩) bM).mono ?_
      rintro e w5 ⟨v, rfl, hown, hb5⟩
      have hB5 := hB4.trans (hb5.mono hB4.size)
      obtain ⟨A1, c1, rfl, hp1, hc1⟩ := pts_of_owns' hown
      clear hown bM
      have e : (l.map (subXY mi)).length = l.length := by rw [List.length_map]
      rw [e] at hc1 ⊢
      have HE := Lib.hid e
      clear e
      go_wp2_with fail
      refine (dcanon_r A1 (l.map (subXY mi)) l.length c1 HE.out (by omega) h64 hc1 w5 hp1).mono ?_
      rintro e w6 ⟨v, rfl, hown3, hb6⟩
      go_wp2
      go_ret2
      exact ⟨_, rfl, hown3.mono hB5.size, hB5.trans (hb6.mono hB5.size)⟩)
end Go.Proofs.Ytflkhjicgojcbaa
