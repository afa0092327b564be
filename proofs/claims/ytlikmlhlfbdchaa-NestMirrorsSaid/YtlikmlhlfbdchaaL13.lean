import Derived.Test.YtlikmlhlfbdchaaL12
namespace Go.Proofs.Ytlikmlhlfbdchaa
open Go.RowKit Go.Shelf

set_option maxRecDepth 100000 in
set_option maxHeartbeats 4000000 in
theorem rmoved_any (A : Option Addr) (l : List Geo.XY) (c : Nat) (dx dy : Int) (w : World) (hP : Pts w A l) :
    Calls Try.prog 17 #[.slice A l.length c, .int .i64 dx, .int .i64 dy] w fun e w' => ListErr w (movedV l dx dy).1 (movedV l dx dy).2 e w' := by
  have HP := Lib.hid hP
  cases hv : validB l with
  | false =>
    have HV := Lib.hid hv
    rw [movedV_inv hv]
    clear hv hP
    unfold ListErr
    go_enter Try.func17, Try.ntmps17
    go_wp2_with (go_at_call 51; refine (rvalid_b _ _ _ _ HP.out false HV.out).mono ?_; rintro e w' ⟨rfl, hb'⟩)
    go_ret2
    exact ⟨_, rfl, own_nil' _ _, hb'⟩
  | true =>
    have HV := Lib.hid hv
    have hval := valid_of hv
    have h3 := hval.1
    have h64 := hval.2.1
    have HIN := Lib.hid hval.allin
    obtain ⟨b, off, rfl, hb, hc⟩ := pts_open hP (by omega)
    have HC := Lib.hid hc
    cases hr : rngM dx dy with
    | false =>
      have HX : Hid (¬ (-10000 ≤ dx ∧ dx ≤ 10000 ∧ -10000 ≤ dy ∧ dy ≤ 10000)) := Lib.hid (fun h => by rw [(rngM_iff dx dy).2 h] at hr; cases hr)
      rw [movedV_arg hv hr]
      clear hv hval hc hP hr
      unfold ListErr
      go_enter Try.func17, Try.ntmps17
      go_wp2_with (go_at_call 51; refine (rvalid_b _ _ _ _ HP.out true HV.out).mono ?_; rintro e w1 ⟨rfl, hb1⟩)
      all_goals first
        | (go_ret2; exact ⟨_, rfl, own_nil' _ _, hb1⟩)
        | (exfalso; have hx := HX.out; simp at *; omega)
    | true =>
      obtain ⟨u1, u2, v1, v2⟩ := (rngM_iff dx dy).1 hr
      have hq : (-20000 ≤ dx ∧ dx ≤ 20000) ∧ -20000 ≤ dy ∧ dy ≤ 20000 := by omega
      have HQ := Lib.hid hq
      obtain ⟨ps, hps⟩ : ∃ ps, ps = l.map (addXY (dx, dy)) := ⟨_, rfl⟩
      have el : ps.length = l.length := by rw [hps, List.length_map]
      obtain ⟨ai, hai⟩ : ∃ r, allInB ps = r := ⟨_, rfl⟩
      have HRES : Hid (movedV l dx dy = if allInB ps = true then (Geo.canon ps, 0) else ([], 2)) := Lib.hid (by
        rw [hps]
        cases ha : allInB (l.map (addXY (dx, dy))) with
        | true => rw [movedV_ok hv hr ha]; rfl
        | false => rw [movedV_far hv hr ha]; rfl)
      have HPS := Lib.hid hps
      have HEL := Lib.hid el
      clear hv hval hc hP hr hq hai hps el
      obtain ⟨⟨r1, r2⟩, hr12⟩ : ∃ r, movedV l dx dy = r := ⟨_, rfl⟩
      have HR12 := Lib.hid hr12
      rw [hr12]
      clear hr12
      unfold ListErr
      dsimp only
      go_enter Try.func17, Try.ntmps17
      go_wp2_with fail
      refine (rvalid_b _ _ _ _ HP.out true HV.out).mono ?_
      rintro e w1 ⟨rfl, hb1⟩
      go_wp2_with fail
      refine (rshifted b off c l dx dy HQ.out h64 HIN.out w1 (Nat.lt_of_lt_of_le hb hb1.size) (fun k hk => ⟨(hb1.cell (p := ⟨b, off + k * 2, none⟩) hb).trans (HC.out k hk).1, (hb1.cell (p := ⟨b, off + k * 2 + 1, none⟩) hb).trans (HC.out k hk).2⟩)).mono ?_
      rintro e w3 ⟨v, rfl, hown, hb3⟩
      rw [← HPS.out] at hown
      have hB3 := hb1.trans (hb3.mono hb1.size)
      obtain ⟨A1, c1, rfl, hp1, hc1⟩ := pts_of_owns' hown
      clear hown
      have HP1 := Lib.hid hp1
      obtain ⟨g, o, rfl, hg, hgc⟩ := pts_open hp1 (by have := HEL.out; omega)
      have HGC := Lib.hid hgc
      clear hp1 hgc
      rw [HEL.out] at hc1 ⊢
      go_wp2_with fail
      go_loopw [41] (fun i wr => ∃ k : Nat, k ≤ l.length ∧ i = .int .i64 k ∧ (∀ j, j < k → Geo.In (Geo.X ps j)) ∧ Below w3.heap.size w3 wr) (fun i _ => l.length - (intOf i).toNat)
      case atStart => exact ⟨0, Nat.zero_le _, rfl, fun j hj => absurd hj (by omega), Below.refl _ _⟩
      case round =>
        obtain ⟨k, hk, rfl, hin, hB⟩ := hrel
        have HIN2 := Lib.hid hin
        clear hin
        have hBw := hB3.trans (hB.mono hB3.size)
        by_cases hlt : k < l.length
        · have c1 : wr.cell? ⟨g, o + k * 2, none⟩ = some (.int .i64 (Geo.X ps k).1) := (hB.cell (p := ⟨g, o + k * 2, none⟩) hg).trans (HGC.out k (by have := HEL.out; omega)).1
          have c2 : wr.cell? ⟨g, o + k * 2 + 1, none⟩ = some (.int .i64 (Geo.X ps k).2) := (hB.cell (p := ⟨g, o + k * 2 + 1, none⟩) hg).trans (HGC.out k (by have := HEL.out; omega)).2
          cases hI : InF (Geo.X ps k) with
          | false =>
            have hv : allInB ps = false := by
              unfold allInB
              exact decide_eq_false fun hv => by have := (InF_iff _).2 (hv k (by have := HEL.out; omega)); rw [hI] at this; cases this
            have hre := HR12.out.symm.trans (HRES.out.trans (if_neg (by rw [hv]; simp)))
            obtain ⟨rfl, rfl⟩ := Prod.mk.inj hre
            clear hre HR12
            have HI := Lib.hid hI
            clear hI hv
            go_wp2_with (go_at_call 55; refine (in_no _ _ HI.out _).mono ?_; rintro e w' ⟨rfl, hb'⟩)
            go_ret2
            exact ⟨_, rfl, own_nil' _ _, (hBw.alloc hBw.size _).trans (hb'.mono (by simp; have := hBw.size; omega))⟩
          | true =>
            have HI := Lib.hid hI
            clear hI
            go_wp2_with (go_at_call 55; refine (in_yes _ _ HI.out _).mono ?_; rintro e w' ⟨rfl, hb'⟩)
            go_roundw
            case rel => exact ⟨k + 1, by omega, by go_num, fun j hj => by
              by_cases e : j = k
              · subst e; exact (InF_iff _).1 HI.out
              · exact HIN2.out j (by omega), (hB.alloc hB.size _).trans (hb'.mono (by simp; have := hB.size; omega))⟩
            case measure => simp [intOf]; omega
        · obtain rfl : k = l.length := by omega
          have hv : allInB ps = true := by
            unfold allInB
            exact decide_eq_true fun j hj => HIN2.out j (by have := HEL.out; omega)
          have hre := HR12.out.symm.trans (HRES.out.trans (if_pos hv))
          obtain ⟨rfl, rfl⟩ := Prod.mk.inj hre
          clear hre HR12 hv
          go_wp2_with fail
          refine (rcanon_r _ ps l.length c1 HEL.out (by omega) h64 hc1 wr (HP1.out.below hB)).mono ?_
          rintro e w5 ⟨v, rfl, hown5, hb5⟩
          go_wp2
          go_ret2
          exact ⟨_, rfl, hown5.mono hBw.size, hBw.trans (hb5.mono hBw.size)⟩
end Go.Proofs.Ytlikmlhlfbdchaa
