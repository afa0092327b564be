import Derived.Test.YtflkhjicgojcbaaL8
namespace Go.Proofs.Ytflkhjicgojcbaa
open Go.RowKit Go.Shelf

theorem reverse_r (B g c n : Nat) (ps : List Geo.XY) (e : ps.length = n) (h64 : n ≤ 64) (h0 : 0 < n) (w : World) (hown : w.ownsRow B 38 2 (.slice (some ⟨g, 0, none⟩) n c) n (flat ps)) :
    Calls Try.prog 75 #[.slice (some ⟨g, 0, none⟩) n c] w fun e w' => e = .returned (.tuple #[]) ∧ w'.ownsRow B 38 2 (.slice (some ⟨g, 0, none⟩) n c) n (flat ps.reverse) ∧ Below B w w' := by
  subst e; exact reverse_any B g c ps h64 h0 w hown

set_option maxRecDepth 100000 in
set_option maxHeartbeats 4000000 in
theorem dturned_any (A : Option Addr) (l : List Geo.XY) (c : Nat) (w : World) (hP : Pts w A l) :
    Calls Try.prog 31 #[.slice A l.length c] w fun e w' => ListErr w (lstV l (l.map negXY)).1 (lstV l (l.map negXY)).2 e w' := by
  have HP := Lib.hid hP
  cases hv : validB l with
  | false =>
    have HV := Lib.hid hv
    rw [lstV_no hv]
    clear hv hP
    unfold ListErr
    go_enter Try.func31, Try.ntmps31
    go_wp2_with (go_at_call 19; refine (dvalid_b _ _ _ _ HP.out false HV.out).mono ?_; rintro e w' ⟨rfl, hb'⟩)
    go_ret2
    exact ⟨_, rfl, own_nil' _ _, hb'⟩
  | true =>
    have HV := Lib.hid hv
    have hval := valid_of hv
    have h3 := hval.1
    have h64 := hval.2.1
    have HIN := Lib.hid hval.allin
    rw [lstV_ok hv]
    clear hv hval
    unfold ListErr
    obtain ⟨b, off, rfl, hb, hc⟩ := pts_open hP (by omega)
    have HC := Lib.hid hc
    clear hc hP
    obtain ⟨i0, hi, hz0, hz1, hz2⟩ := info_parts info38'
    go_enter Try.func31, Try.ntmps31
    go_wp2_with fail
    refine (dvalid_b _ _ _ _ HP.out true HV.out).mono ?_
    rintro e w1 ⟨rfl, hb1⟩
    go_wp2_with fail
    refine (changed76 b off c l h64 HIN.out w1 (Nat.lt_of_lt_of_le hb hb1.size) (fun k hk => ⟨(hb1.cell (p := ⟨b, off + k * 2, none⟩) hb).trans (HC.out k hk).1, (hb1.cell (p := ⟨b, off + k * 2 + 1, none⟩) hb).trans (HC.out k hk).2⟩)).mono ?_
    rintro e w2 ⟨v, rfl, hown, hb2⟩
    have hB2 := hb1.trans (hb2.mono hb1.size)
    obtain ⟨A1, c1, rfl, hp1, hc1⟩ := pts_of_owns' hown
    clear hown
    have e : (l.map negXY).length = l.length := by rw [List.length_map]
    rw [e] at hc1 ⊢
    go_wp2_with fail
    refine (dcanon_r A1 (l.map negXY) l.length c1 e (by omega) h64 hc1 w2 hp1).mono ?_
    rintro e w3 ⟨v, rfl, hown3, hb3⟩
    go_wp2
    go_ret2
    exact ⟨_, rfl, hown3.mono hB2.size, hB2.trans (hb3.mono hB2.size)⟩

set_option maxRecDepth 100000 in
set_option maxHeartbeats 4000000 in
theorem dmirror_any (A : Option Addr) (l : List Geo.XY) (c : Nat) (w : World) (hP : Pts w A l) :
    Calls Try.prog 29 #[.slice A l.length c] w fun e w' => ListErr w (lstV l (mirL l)).1 (lstV l (mirL l)).2 e w' := by
  have HP := Lib.hid hP
  cases hv : validB l with
  | false =>
    have HV := Lib.hid hv
    rw [lstV_no hv]
    clear hv hP
    unfold ListErr
    go_enter Try.func29, Try.ntmps29
    go_wp2_with (go_at_call 19; refine (dvalid_b _ _ _ _ HP.out false HV.out).mono ?_; rintro e w' ⟨rfl, hb'⟩)
    go_ret2
    exact ⟨_, rfl, own_nil' _ _, hb'⟩
  | true =>
    have HV := Lib.hid hv
    have hval := valid_of hv
    have h3 := hval.1
    have h64 := hval.2.1
    have HIN := Lib.hid hval.allin
    rw [lstV_ok hv]
    clear hv hval
    unfold ListErr
    obtain ⟨b, off, rfl, hb, hc⟩ := pts_open hP (by omega)
    have HC := Lib.hid hc
    clear hc hP
    obtain ⟨i0, hi, hz0, hz1, hz2⟩ := info_parts info38'
    go_enter Try.func29, Try.ntmps29
    go_wp2_with fail
    refine (dvalid_b _ _ _ _ HP.out true HV.out).mono ?_
    rintro e w1 ⟨rfl, hb1⟩
    go_wp2_with fail
    refine (changed74 b off c l h64 HIN.out w1 (Nat.lt_of_lt_of_le hb hb1.size) (fun k hk => ⟨(hb1.cell (p := ⟨b, off + k * 2, none⟩) hb).trans (HC.out k hk).1, (hb1.cell (p := ⟨b, off + k * 2 + 1, none⟩) hb).trans (HC.out k hk).2⟩)).mono ?_
    rintro e w2 ⟨v, rfl, hown, hb2⟩
    have hB2 := hb1.trans (hb2.mono hb1.size)
    have hml : 0 < (l.map mirXY).length := by rw [List.length_map]; omega
    obtain ⟨g, cap, rfl⟩ := owns_addr hown hml
    have e : (l.map mirXY).length = l.length := by rw [List.length_map]
    rw [e] at hown ⊢
    go_wp2_with fail
    refine (reverse_r w1.heap.size g cap l.length (l.map mirXY) e h64 (by omega) w2 hown).mono ?_
    rintro e w3 ⟨rfl, hown2, hb3⟩
    have hB3 := hB2.trans (hb3.mono hb1.size)
    clear hown
    have hown4 : w3.ownsRow w1.heap.size 38 2 (.slice (some ⟨g, 0, none⟩) l.length cap) (mirL l).length (flat (mirL l)) := by rw [mirL_len]; exact hown2
    obtain ⟨A1, c1, he, hp1, hc1⟩ := pts_of_owns' hown4
    rw [mirL_len] at he hc1
    cases he
    clear hown4 hown2
    go_wp2_with fail
    refine (dcanon_r _ (mirL l) l.length cap (mirL_len l) (by omega) h64 hc1 w3 hp1).mono ?_
    rintro e w4 ⟨v, rfl, hown3, hb4⟩
    go_wp2
    go_ret2
    exact ⟨_, rfl, hown3.mono hB3.size, hB3.trans (hb4.mono hB3.size)⟩
end Go.Proofs.Ytflkhjicgojcbaa
