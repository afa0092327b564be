import Derived.Test.YtflkhjicgojcbaaL15
namespace Go.Proofs.Ytflkhjicgojcbaa
open Go.RowKit Go.Shelf

theorem sub_add (q : Geo.XY) : subXY q = addXY (-q.1, -q.2) := by
  funext p; unfold subXY addXY; ext <;> simp <;> omega
theorem rshifted_r (b off c : Nat) (l m : List Geo.XY) (dx dy : Int) (hm : l.map (addXY (dx, dy)) = m) (hq : (-20000 ≤ dx ∧ dx ≤ 20000) ∧ -20000 ≤ dy ∧ dy ≤ 20000) (h64 : l.length ≤ 64) (hin : AllIn l) (w : World) (hb : b < w.heap.size)
    (hc : ∀ k, k < l.length → w.cell? ⟨b, off + k * 2, none⟩ = some (.int .i64 (Geo.X l k).1) ∧ w.cell? ⟨b, off + k * 2 + 1, none⟩ = some (.int .i64 (Geo.X l k).2)) :
    Calls Try.prog 69 #[.slice (some ⟨b, off, none⟩) l.length c, .int .i64 dx, .int .i64 dy] w fun e w' => ∃ v, e = .returned v ∧ w'.ownsRow w.heap.size 38 2 v m.length (flat m) ∧ Below w.heap.size w w' := by
  subst hm; exact rshifted b off c l dx dy hq h64 hin w hb hc

set_option maxRecDepth 100000 in
set_option maxHeartbeats 4000000 in
theorem rcentred_any (A : Option Addr) (l : List Geo.XY) (c : Nat) (w : World) (hP : Pts w A l) :
    Calls Try.prog 26 #[.slice A l.length c] w fun e w' => ListErr w (lstV l (l.map (subXY (midP l)))).1 (lstV l (l.map (subXY (midP l)))).2 e w' := by
  have HP := Lib.hid hP
  cases hv : validB l with
  | false =>
    have HV := Lib.hid hv
    rw [lstV_no hv]
    clear hv hP
    unfold ListErr
    go_enter Try.func26, Try.ntmps26
    go_wp2_with (go_at_call 20; refine (rvalid_b _ _ _ _ HP.out false HV.out).mono ?_; rintro e w' ⟨rfl, hb'⟩)
    go_ret2
    exact ⟨_, rfl, own_nil' _ _, hb'⟩
  | true =>
    have HV := Lib.hid hv
    have hval := valid_of hv
    have h3 := hval.1
    have h64 := hval.2.1
    obtain ⟨a1, a2, a3, a4⟩ := lowP_bd hval.allin l.length
    obtain ⟨a5, a6, a7, a8⟩ := highP_bd hval.allin l.length
    have HIN := Lib.hid hval.allin
    rw [lstV_ok hv]
    obtain ⟨mi, hmi⟩ : ∃ m, m = midP l := ⟨_, rfl⟩
    have HM : Hid (mi = (((lowP l l.length).1 + (highP l l.length).1) / 2, ((lowP l l.length).2 + (highP l l.length).2) / 2)) := Lib.hid hmi
    rw [← hmi]
    obtain ⟨ps, hps⟩ : ∃ ps, ps = l.map (subXY mi) := ⟨_, rfl⟩
    have HPS : Hid (l.map (addXY (-mi.1, -mi.2)) = ps) := Lib.hid (by rw [hps, sub_add])
    have HEL : Hid (ps.length = l.length) := Lib.hid (by rw [hps, List.length_map])
    rw [← hps]
    clear hv hval hmi hps
    unfold ListErr
    obtain ⟨b, off, rfl, hb, hc⟩ := pts_open hP (by omega)
    have HC := Lib.hid hc
    clear hc hP
    go_enter Try.func26, Try.ntmps26
    go_wp2_with fail
    refine (rvalid_b _ _ _ _ HP.out true HV.out).mono ?_
    rintro e w1 ⟨rfl, hb1⟩
    go_wp2_with fail
    refine (ends_any b off c l (by omega) h64 w1 (Nat.lt_of_lt_of_le hb hb1.size) (fun k hk => ⟨(hb1.cell (p := ⟨b, off + k * 2, none⟩) hb).trans (HC.out k hk).1, (hb1.cell (p := ⟨b, off + k * 2 + 1, none⟩) hb).trans (HC.out k hk).2⟩)).mono ?_
    rintro e w2 ⟨rfl, hb2⟩
    generalize lowP l l.length = lo at *
    generalize highP l l.length = hi at *
    go_wp2_with fail
    have hB2 := hb1.trans (hb2.mono hb1.size)
    have bL := (Blk.new w2 38 #[.int .i64 lo.1, .int .i64 lo.2]).alloc (.cells #[.int .i64 hi.1, .int .i64 hi.2] 38)
    have bH := Blk.new (w2.alloc (.cells #[.int .i64 lo.1, .int .i64 lo.2] 38)) 38 #[.int .i64 hi.1, .int .i64 hi.2]
    rw [World.size_alloc] at bH
    have hB3 := (hB2.alloc hB2.size (.cells #[.int .i64 lo.1, .int .i64 lo.2] 38)).alloc (by simp; have := hB2.size; omega) (.cells #[.int .i64 hi.1, .int .i64 hi.2] 38)
    generalize (w2.alloc (.cells #[.int .i64 lo.1, .int .i64 lo.2] 38)).alloc (.cells #[.int .i64 hi.1, .int .i64 hi.2] 38) = w3 at *
    have HQ : Hid ((-20000 ≤ -mi.1 ∧ -mi.1 ≤ 20000) ∧ -20000 ≤ -mi.2 ∧ -mi.2 ≤ 20000) := Lib.hid (by rw [HM.out]; dsimp only; omega)
    have HM1 : Hid ((lo.1 + hi.1) / 2 = mi.1) := Lib.hid (by rw [HM.out])
    have HM2 : Hid ((lo.2 + hi.2) / 2 = mi.2) := Lib.hid (by rw [HM.out])
    have E1 : Hid (IntKind.i64.wrap (lo.1 + hi.1) = lo.1 + hi.1) := Lib.hid (IntWalk.i64_in _ (by omega))
    have E2 : Hid (IntKind.i64.wrap (lo.2 + hi.2) = lo.2 + hi.2) := Lib.hid (IntWalk.i64_in _ (by omega))
    have E3 : Hid (IntKind.i64.wrap (-mi.1) = -mi.1) := Lib.hid (IntWalk.i64_in _ (by have := HQ.out; omega))
    have E4 : Hid (IntKind.i64.wrap (-mi.2) = -mi.2) := Lib.hid (IntWalk.i64_in _ (by have := HQ.out; omega))
    refine wp_region_tail 15 (by kernel_rfl) (by kernel_rfl) fun W hW => ?_
    have q1 := bL.drew.cell 0
    have q2 := bL.drew.cell 1
    have q3 := bH.drew.cell 0
    have q4 := bH.drew.cell 1
    rw [← hW] at q1 q2 q3 q4
    have hB4 := hB3.drew
    rw [← hW] at hB4
    clear hW
    simp only [List.getElem?_toArray, List.getElem?_cons_zero, List.getElem?_cons_succ] at q1 q2 q3 q4
    simp only [List.take_succ_cons, List.take_zero, List.drop_succ_cons, List.drop_zero]
    iterate 6 still_step
    rw [E1.out]
    still_call (rhalf_any _ (by omega) (by omega) _)
    rw [HM1.out]
    iterate 6 still_step
    rw [E2.out]
    still_call (rhalf_any _ (by omega) (by omega) _)
    rw [HM2.out]
    still_step
    refine wpStill_nil ?_
    rw [E3.out, E4.out]
    clear q1 q2 q3 q4 bL bH
    go_wp2_with fail
    refine (rshifted_r b off c l ps (-mi.1) (-mi.2) HPS.out HQ.out h64 HIN.out W (Nat.lt_of_lt_of_le hb hB4.size) (fun k hk => ⟨(hB4.cell (p := ⟨b, off + k * 2, none⟩) hb).trans (HC.out k hk).1, (hB4.cell (p := ⟨b, off + k * 2 + 1, none⟩) hb).trans (HC.out k hk).2⟩)).mono ?_
    rintro e w5 ⟨v, rfl, hown, hb5⟩
    have hB5 := hB4.trans (hb5.mono hB4.size)
    obtain ⟨A1, c1, rfl, hp1, hc1⟩ := pts_of_owns' hown
    clear hown
    rw [HEL.out] at hc1 ⊢
    go_wp2_with fail
    refine (rcanon_r A1 ps l.length c1 HEL.out (by omega) h64 hc1 w5 hp1).mono ?_
    rintro e w6 ⟨v, rfl, hown3, hb6⟩
    go_wp2
    go_ret2
    exact ⟨_, rfl, hown3.mono hB5.size, hB5.trans (hb6.mono hB5.size)⟩
end Go.Proofs.Ytflkhjicgojcbaa
