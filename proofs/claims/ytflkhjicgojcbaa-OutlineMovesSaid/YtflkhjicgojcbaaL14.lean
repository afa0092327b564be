import Derived.Test.YtflkhjicgojcbaaL13
import Derived.Test.YtflkhjicgojcbaaL9
import Derived.Test.YtflkhjicgojcbaaL10
namespace Go.Proofs.Ytflkhjicgojcbaa
open Go.RowKit Go.Shelf

theorem lstV_len {l m : List Geo.XY} (h : m.length = l.length) : (lstV l m).1.length ≤ 256 := by
  cases hv : validB l with
  | true => rw [lstV_ok hv]; have := (valid_of hv).2.1; rw [Geo.canon_length]; omega
  | false => rw [lstV_no hv]; simp
theorem movedV_len (l : List Geo.XY) (dx dy : Int) : (movedV l dx dy).1.length ≤ 256 := by
  unfold movedV
  split
  · have := (valid_of (by assumption)).2.1
    split
    · split
      · rw [Geo.canon_length, List.length_map]; omega
      · simp
    · simp
  · simp
theorem eqB_self (l : List Geo.XY) : eqB l l = true := by unfold eqB; simp

set_option maxRecDepth 100000 in
set_option maxHeartbeats 4000000 in
theorem law_moves (A : Option Addr) (l : List Geo.XY) (c : Nat) (dx dy : Int) (w : World) (hP : Pts w A l) :
    Calls Try.prog 5 #[.slice A l.length c, .int .i64 dx, .int .i64 dy] w fun e w' => e = .returned (.bool true) ∧ Below w.heap.size w w' := by
  have HP := Lib.hid hP
  clear hP
  have l1 := lstV_len (l := l) (m := mirL l) (mirL_len l)
  have l2 := lstV_len (l := l) (m := l.map negXY) (List.length_map _)
  have l3 := movedV_len l dx dy
  obtain ⟨⟨m1, m2⟩, hm⟩ : ∃ r, lstV l (mirL l) = r := ⟨_, rfl⟩
  obtain ⟨⟨t1, t2⟩, ht⟩ : ∃ r, lstV l (l.map negXY) = r := ⟨_, rfl⟩
  obtain ⟨⟨v1, v2⟩, hv⟩ : ∃ r, movedV l dx dy = r := ⟨_, rfl⟩
  rw [hm] at l1
  rw [ht] at l2
  rw [hv] at l3
  have HM := Lib.hid hm
  have HT := Lib.hid ht
  have HV := Lib.hid hv
  clear hm ht hv
  dsimp only at l1 l2 l3
  go_enter Try.func5, Try.ntmps5
  go_wp2_with fail
  refine (dmirror_any A l c _ HP.out).mono ?_
  rintro e w1 ⟨a1, rfl, hown1, hb1⟩
  rw [HM.out] at hown1
  rw [HM.out]
  obtain ⟨A1, c1, rfl, hp1⟩ := pts_of_owns hown1
  go_wp2_with fail
  refine (rmirror_any A l c _ (HP.out.below hb1)).mono ?_
  rintro e w2 ⟨a2, rfl, hown2, hb2⟩
  have hB2 := hb1.trans (hb2.mono hb1.size)
  rw [HM.out] at hown2
  rw [HM.out]
  obtain ⟨A2, c2, rfl, hp2⟩ := pts_of_owns hown2
  have HP1 := Lib.hid (hp1.below hb2)
  have HP2 := Lib.hid hp2
  clear hp1 hp2 hown1 hown2
  dsimp only at HP1 HP2 ⊢
  go_wp2_with fail
  refine (same_any A1 A2 m1 m1 c1 c2 _ HP1.out HP2.out l1 true (eqB_self _)).mono ?_
  rintro e w3 ⟨rfl, hb3⟩
  have hB3 := hB2.trans (hb3.mono hB2.size)
  clear HP1 HP2
  go_wp2_with fail
  refine (dturned_any A l c _ (HP.out.below hB3)).mono ?_
  rintro e w4 ⟨a1, rfl, hown1, hb4⟩
  have hB4 := hB3.trans (hb4.mono hB3.size)
  rw [HT.out] at hown1
  rw [HT.out]
  obtain ⟨A1, c1, rfl, hp1⟩ := pts_of_owns hown1
  go_wp2_with fail
  refine (rturned_any A l c _ (HP.out.below hB4)).mono ?_
  rintro e w5 ⟨a2, rfl, hown2, hb5⟩
  have hB5 := hB4.trans (hb5.mono hB4.size)
  rw [HT.out] at hown2
  rw [HT.out]
  obtain ⟨A2, c2, rfl, hp2⟩ := pts_of_owns hown2
  have HP1 := Lib.hid (hp1.below hb5)
  have HP2 := Lib.hid hp2
  clear hp1 hp2 hown1 hown2
  dsimp only at HP1 HP2 ⊢
  go_wp2_with fail
  refine (same_any A1 A2 t1 t1 c1 c2 _ HP1.out HP2.out l2 true (eqB_self _)).mono ?_
  rintro e w6 ⟨rfl, hb6⟩
  have hB6 := hB5.trans (hb6.mono hB5.size)
  clear HP1 HP2
  go_wp2_with fail
  refine (dmoved_any A l c dx dy _ (HP.out.below hB6)).mono ?_
  rintro e w7 ⟨a1, rfl, hown1, hb7⟩
  have hB7 := hB6.trans (hb7.mono hB6.size)
  rw [HV.out] at hown1
  rw [HV.out]
  obtain ⟨A1, c1, rfl, hp1⟩ := pts_of_owns hown1
  go_wp2_with fail
  refine (rmoved_any A l c dx dy _ (HP.out.below hB7)).mono ?_
  rintro e w8 ⟨a2, rfl, hown2, hb8⟩
  have hB8 := hB7.trans (hb8.mono hB7.size)
  rw [HV.out] at hown2
  rw [HV.out]
  obtain ⟨A2, c2, rfl, hp2⟩ := pts_of_owns hown2
  have HP1 := Lib.hid (hp1.below hb8)
  have HP2 := Lib.hid hp2
  clear hp1 hp2 hown1 hown2
  dsimp only at HP1 HP2 ⊢
  go_wp2_with fail
  refine (same_any A1 A2 v1 v1 c1 c2 _ HP1.out HP2.out l3 true (eqB_self _)).mono ?_
  rintro e w9 ⟨rfl, hb9⟩
  have hB9 := hB8.trans (hb9.mono hB8.size)
  go_wp2_with fail
  refine (awake_any _).mono ?_
  rintro e w10 ⟨rfl, hb10⟩
  go_wp2
  go_ret
  exact ⟨rfl, hB9.trans (hb10.mono hB9.size)⟩
end Go.Proofs.Ytflkhjicgojcbaa
