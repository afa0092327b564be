import Derived.Test.YtflkhjicgojcbaaH6
namespace Go.Proofs.Ytflkhjicgojcbaa
open Go.RowKit Go.Shelf

set_option maxHeartbeats 1000000 in
theorem law_holds (A A' : Option Addr) (o l : List Geo.XY) (c c' : Nat) (p : Geo.XY) (u v : Int) (w : World) (ho : Pts w A o) (hr : Pts w A' l) :
    Calls Try.prog 6 #[.slice A o.length c, .slice A' l.length c', .agg #[.int .i64 p.1, .int .i64 p.2], .int .i64 u, .int .i64 v] w fun e w' => e = .returned (.bool true) ∧ Below w.heap.size w w' := by
  have HO := Lib.hid ho
  have HR := Lib.hid hr
  clear ho hr
  have hb0 : Below w.heap.size w (w.alloc (.cells #[.int .i64 p.1, .int .i64 p.2] 38)) := (Below.refl _ w).alloc (Nat.le_refl _) _
  go_enter Try.func6, Try.ntmps6
  go_wp2_with fail
  refine (dreach_any A o c u v _ (HO.out.below hb0)).mono ?_
  rintro e w1 ⟨rfl, hb1⟩
  have hB1 := hb0.trans (hb1.mono hb0.size)
  obtain ⟨⟨rn, re⟩, hrv⟩ : ∃ r, reachV o u v = r := ⟨_, rfl⟩
  rw [hrv]
  have HRV := Lib.hid hrv
  clear hrv
  unfold tup2
  go_wp2_with fail
  refine (rreach_any A o c u v _ (HO.out.below hB1)).mono ?_
  rintro e w2 ⟨rfl, hb2⟩
  rw [HRV.out]
  unfold tup2
  have hB2 := hB1.trans (hb2.mono hB1.size)
  have bP : Blk w2 w.heap.size 38 #[.int .i64 p.1, .int .i64 p.2] := ((Blk.new w 38 _).below hb1 (by simp)).below hb2 (by have := hb1.size; simp at this; omega)
  have q1 := bP.cell 0
  have q2 := bP.cell 1
  simp only [List.getElem?_toArray, List.getElem?_cons_zero, List.getElem?_cons_succ] at q1 q2
  go_wp2_with fail
  refine (dholds_any A o c p _ (HO.out.below hB2)).mono ?_
  rintro e w3 ⟨rfl, hb3⟩
  have hB3 := hB2.trans (hb3.mono hB2.size)
  have q3 := (bP.below hb3 bP.lt).cell 0
  have q4 := (bP.below hb3 bP.lt).cell 1
  simp only [List.getElem?_toArray, List.getElem?_cons_zero, List.getElem?_cons_succ] at q3 q4
  obtain ⟨⟨hn, he⟩, hhv⟩ : ∃ r, holdsV o p = r := ⟨_, rfl⟩
  rw [hhv]
  have HHV := Lib.hid hhv
  clear hhv
  unfold tupB
  go_wp2_with fail
  refine (rholds_any A o c p _ (HO.out.below hB3)).mono ?_
  rintro e w4 ⟨rfl, hb4⟩
  rw [HHV.out]
  unfold tupB
  have hB4 := hB3.trans (hb4.mono hB3.size)
  go_wp2_with fail
  refine (dwithin_any A A' o l c c' _ (HO.out.below hB4) (HR.out.below hB4)).mono ?_
  rintro e w5 ⟨rfl, hb5⟩
  have hB5 := hB4.trans (hb5.mono hB4.size)
  obtain ⟨⟨wn, we⟩, hwv⟩ : ∃ r, withinV o l = r := ⟨_, rfl⟩
  rw [hwv]
  have HWV := Lib.hid hwv
  clear hwv
  unfold tupB
  go_wp2_with fail
  refine (rwithin_any A A' o l c c' _ (HO.out.below hB5) (HR.out.below hB5)).mono ?_
  rintro e w6 ⟨rfl, hb6⟩
  rw [HWV.out]
  unfold tupB
  have hB6 := hB5.trans (hb6.mono hB5.size)
  go_wp2_with fail
  refine (awake_any _).mono ?_
  rintro e w7 ⟨rfl, hb7⟩
  go_wp2
  go_ret
  exact ⟨rfl, hB6.trans (hb7.mono hB6.size)⟩
end Go.Proofs.Ytflkhjicgojcbaa
