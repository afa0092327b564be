import Derived.Test.YtflkhjicgojcbaaL8
namespace Go.Proofs.Ytflkhjicgojcbaa
open Go.RowKit Go.Shelf

set_option maxRecDepth 100000 in
set_option maxHeartbeats 4000000 in
theorem rturned_any (A : Option Addr) (l : List Geo.XY) (c : Nat) (w : World) (hP : Pts w A l) :
    Calls Try.prog 32 #[.slice A l.length c] w fun e w' => ListErr w (lstV l (l.map negXY)).1 (lstV l (l.map negXY)).2 e w' := by
  have HP := Lib.hid hP
  cases hv : validB l with
  | false =>
    have HV := Lib.hid hv
    rw [lstV_no hv]
    clear hv hP
    unfold ListErr
    go_enter Try.func32, Try.ntmps32
    go_wp2_with (go_at_call 20; refine (rvalid_b _ _ _ _ HP.out false HV.out).mono ?_; rintro e w' ⟨rfl, hb'⟩)
    go_ret2
    exact ⟨_, rfl, own_nil' _ _, hb'⟩
  | true =>
    have HV := Lib.hid hv
    have hval := valid_of hv
    have h3 := hval.1
    have h64 := hval.2.1
    have HIN := Lib.hid hval.allin
    rw [lstV_ok hv]
    clear hv hval
    unfold ListErr
    obtain ⟨b, off, rfl, hb, hc⟩ := pts_open hP (by omega)
    have HC := Lib.hid hc
    clear hc hP
    obtain ⟨i0, hi, hz0, hz1, hz2⟩ := info_parts info38'
    go_enter Try.func32, Try.ntmps32
    go_wp2_with fail
    refine (rvalid_b _ _ _ _ HP.out true HV.out).mono ?_
    rintro e w1 ⟨rfl, hb1⟩
    go_wp2
    go_loopw [4, 12] (fun v i wr => ∃ k : Nat, k ≤ l.length ∧ i = .int .i64 k ∧ wr.ownsRow w.heap.size 38 2 v k (flat ((l.take k).map negXY)) ∧ Below w.heap.size w wr) (fun _ i _ => l.length - (intOf i).toNat)
    case atStart => exact ⟨0, Nat.zero_le _, rfl, World.ownsRow_nil _ _ _ _, hb1⟩
    case round =>
      clear hb1
      obtain ⟨k, hk, rfl, hown, hB⟩ := hrel
      by_cases hlt : k < l.length
      · have c1 : wr.cell? ⟨b, off + k * 2, none⟩ = some (.int .i64 (Geo.X l k).1) := (hB.cell (p := ⟨b, off + k * 2, none⟩) hb).trans (HC.out k hlt).1
        have c2 : wr.cell? ⟨b, off + k * 2 + 1, none⟩ = some (.int .i64 (Geo.X l k).2) := (hB.cell (p := ⟨b, off + k * 2 + 1, none⟩) hb).trans (HC.out k hlt).2
        have HM : Hid ((l.take (k + 1)).map negXY = (l.take k).map negXY ++ [negXY (Geo.X l k)]) := Lib.hid (by rw [take_x l k hlt, List.map_append]; rfl)
        obtain ⟨a1, a2, a3, a4⟩ := in_all HIN.out k
        go_wp2_with (at_builtin; refine wpList_append_own _ rfl _ _ 22 rfl w.heap.size 38 i0 _ 2 16 Try.underlying22 hi hz0 hz1 hz2 rfl (by decide) _ _ _ rfl ((hown.alloc _).alloc _) ⟨wr.heap.size + 1, 0, none⟩ 1 1 [.int .i64 (-(Geo.X l k).1), .int .i64 (-(Geo.X l k).2)] rfl rfl ?c1 ?c2 ?c3 ?c4 ?c5 ?_)
        case c1 => exact new_cells2 _ _ _ _
        case c2 => exact one_two _ _
        case c3 => unfold maxLen; omega
        case c4 => omega
        case c5 => have := hB.size; simp; omega
        intro v' w2 hown' hgrow _
        have hB' : Below w.heap.size w w2 := ((hB.alloc hB.size _).alloc (by have := hB.size; simp; omega) _).grown hgrow (by have := hB.size; simp; omega) (fun k e => (hown.lt k e).1)
        clear hown hgrow
        go_wp2
        go_roundw
        case rel => exact ⟨k + 1, by omega, by go_num, by rw [HM.out, flat_append, List.map_take]; exact hown', hB'⟩
        case measure => simp [intOf]; omega
      · obtain rfl : k = l.length := by omega
        rw [List.take_length] at hown
        have e : l.length = (l.map negXY).length := by rw [List.length_map]
        rw [e] at hown
        obtain ⟨A1, c1, rfl, hp1, hc1⟩ := pts_of_owns' hown
        rw [← e] at hc1 ⊢
        have HE := Lib.hid e.symm
        clear hown e
        go_wp2_with fail
        refine (rcanon_r A1 (l.map negXY) l.length c1 HE.out (by omega) h64 hc1 wr hp1).mono ?_
        rintro e w2 ⟨v, rfl, hown3, hb2⟩
        go_wp2
        go_ret2
        exact ⟨_, rfl, hown3.mono hB.size, hB.trans (hb2.mono hB.size)⟩
end Go.Proofs.Ytflkhjicgojcbaa
