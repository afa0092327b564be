/- The layer of the block that every law of the layer asks for. -/
import Derived.Test.YticjhkfidgkecaaGreatDoorS2
namespace Go.Proofs.YticjhkfidgkecaaGreatDoor
open Go.RowKit Pl

set_option maxHeartbeats 400000 in
theorem beside_2 (w : World) : Calls Tryz.prog 120 #[.int .i64 2] w fun e w' => e = .returned (.tuple #[.int .i64 0, .int .i64 1]) ∧ w' = w := by
  go_enter Tryz.func120, Tryz.ntmps120
  go_wp2_with fail
  go_ret2
  exact ⟨ret2 rfl rfl, rfl⟩
theorem info_str : (Tryz.prog.info? 9).map (fun i => (i.zero, i.size, i.bytes)) = some (some (str []), 1, 16) := by kernel_rfl
theorem idx3_1 (a b c : Int) (w : World) : (Instr.index 22 (.agg #[.int .i64 a, .int .i64 b, .int .i64 c]) (.int .i64 1)).run Tryz.prog w = .ok (.int .i64 b) w := by kernel_rfl
theorem idx3_2 (a b c : Int) (w : World) : (Instr.index 22 (.agg #[.int .i64 a, .int .i64 b, .int .i64 c]) (.int .i64 2)).run Tryz.prog w = .ok (.int .i64 c) w := by kernel_rfl
theorem new_str (W : World) (u : Value) : ∀ (j : Nat) (x : Value), [u][j]? = some x → (W.alloc (.cells #[u] 9)).cell? ((⟨W.heap.size, 0, none⟩ : Addr).add j) = some x := by
  intro j x hj
  have := (Blk.new W 9 #[u]).cell j
  rw [show (⟨W.heap.size, 0, none⟩ : Addr).add j = ⟨W.heap.size, j, none⟩ from by cases j <;> simp [Addr.add], this]
  simpa using hj
set_option maxRecDepth 100000 in
set_option maxHeartbeats 8000000 in
theorem layer_sane (w : World) (hO : Own w) : Calls Tryz.prog 76 #[saneV, .int .i64 2, .int .i64 0] w fun e' w' => ∃ g c, e' = .returned (.slice (some ⟨g, 0, none⟩) 1 c) ∧ w'.cell? ⟨g, 0, none⟩ = some (str [97, 97, 98]) ∧ Below w.heap.size w w' := by
  obtain ⟨i0, hi, hz0, hz1, hz2⟩ := info_parts info_str
  have HB := Lib.hid ((Below.refl w.heap.size w).alloc (Nat.le_refl _) (.cells #[.int .i64 0, .int .i64 0, .int .i64 0] 22))
  have B1 := Blk.new w 22 #[.int .i64 0, .int .i64 0, .int .i64 0]
  have HB1 := Lib.hid B1
  have HO := Lib.hid hO
  have HX := Lib.hid (fun w => extents_shape ⟨3, 1, 1⟩ w)
  have hm := fun w => me172 3 1 1 0 158 158 (.agg #[.int .i64 2, .int .i64 1, .int .i64 1, .int .i64 0]) (.agg #[.int .i64 1, .int .i64 1, .int .i64 1, .int .i64 1]) w
  have HR := Lib.hid (fun w hO => row_sane w hO)
  have hcall := call201
  have hix := idx3_1 3 1 1
  have HBS := Lib.hid beside_2
  clear B1 hO
  unfold saneV stackV at *
  unfold solidV at *
  generalize (Value.agg #[.int .i64 3, .int .i64 1, .int .i64 1, .int .i64 0, .iface 158 (.agg #[.int .i64 2, .int .i64 1, .int .i64 1, .int .i64 0]), .iface 158 (.agg #[.int .i64 1, .int .i64 1, .int .i64 1, .int .i64 1])]) = p at *
  obtain ⟨n0, hn0⟩ : ∃ n0, n0 = w.heap.size := ⟨_, rfl⟩
  have Hn0 := Lib.hid hn0
  rw [← hn0] at HB1
  clear hn0
  go_enter Tryz.func76, Tryz.ntmps76
  go_wp2_with fail
  refine (HBS.out _).mono ?_
  rintro e' w1 ⟨rfl, rfl⟩
  have z2 := HB1.out.frozen 2
  have d2 := (HB1.out.cell 2).trans rfl
  go_wp2_with fail
  rw [← Hn0.out]
  clear z2 d2
  generalize w1.alloc (.cells #[.int .i64 0, .int .i64 0, .int .i64 0] 22) = W at *
  refine (HX.out _).mono ?_
  rintro e' w2 ⟨rfl, hb2⟩
  rw [show (min (0 : Int) 1) = 0 from rfl, show (max (0 : Int) 1) = 1 from rfl]
  have HB2 := Lib.hid (HB.out.trans (hb2.mono HB.out.size))
  have HC2 := Lib.hid (HB1.out.below hb2 HB1.out.lt)
  clear hb2 HB HB1
  dsimp only [e3V]
  go_wp2_with (at_make; refine wpList_make_own _ rfl _ _ 41 rfl (n0 + 1) 9 i0 _ 1 Tryz.underlying41 hi hz0 hz1 .i64 .i64 _ 1 rfl rfl rfl (by rw [hz2]; omega) (by unfold maxLen; omega) (by have := HC2.out.lt; omega) ?_; intro w0 hown0 hgrow0; have hBw : Below w1.heap.size w1 w0 := HB2.out.grown hgrow0 HB2.out.size (fun k e => by cases e); have hBn : Blk w0 n0 22 #[.int .i64 0, .int .i64 0, .int .i64 0] := (hgrow0.block n0 HC2.out.lt (by simp)).trans HC2.out; have HBw := Lib.hid hBw; have HBn := Lib.hid hBn; have HOw := Lib.hid hown0; clear hown0 hgrow0 hBw hBn)
  refine (HX.out _).mono ?_
  rintro e' w3 ⟨rfl, hb3⟩
  have HB3 := Lib.hid (below_trans HBw.out hb3)
  have HC3 := Lib.hid (HBn.out.below hb3 HBn.out.lt)
  have HO3 := Lib.hid (own_below HOw.out hb3)
  clear hb3 HB2 HC2 HBw HBn HOw HX hm hcall
  dsimp only [e3V]
  go_wp2_with fail
  clear hix
  have HTail : Hid (∀ (pv : Value) wr, wr.ownsRow (n0 + 1) 9 1 pv 1 [str [97, 97, 98]] → Below w1.heap.size w1 wr → ∃ g c, pv = .slice (some ⟨g, 0, none⟩) 1 c ∧ wr.cell? ⟨g, 0, none⟩ = some (str [97, 97, 98])) := Lib.hid (fun pv wr h _ => by
    obtain ⟨g, c, e, hc⟩ := own_slice3 h (by decide)
    exact ⟨g, c, e, hc 0 _ rfl⟩)
  go_loopw [12, 37] (fun pv i wr => Hid ((i = .int .i64 0 ∧ wr.ownsRow (n0 + 1) 9 1 pv 0 [] ∧ Blk wr n0 22 #[.int .i64 0, .int .i64 0, .int .i64 0]) ∨ (i = .int .i64 1 ∧ wr.ownsRow (n0 + 1) 9 1 pv 1 [str [97, 97, 98]])) ∧ Below w1.heap.size w1 wr) (fun _ i _ => 1 - (intOf i).toNat)
  case atStart => exact ⟨Lib.hid (.inl ⟨rfl, HO3.out, HC3.out⟩), HB3.out⟩
  case round =>
    clear HO3 HB3 HC3
    obtain ⟨hh, hBw⟩ := hrel
    rcases hh.out with ⟨rfl, hown, hBn⟩ | ⟨rfl, hown⟩
    · clear hh
      have HO4 := Lib.hid hown
      have HB4 := Lib.hid hBw
      have HN4 := Lib.hid hBn
      have z1 := hBn.frozen 1
      have d1 := (hBn.cell 1).trans rfl
      have HB5 := Lib.hid (hBn.set (i := 1) (.int .i64 0))
      have HQ5 := Lib.hid (below_set hBw (show w1.heap.size ≤ n0 by have := Hn0.out; omega) 1 (.int .i64 0))
      have HO5 := Lib.hid (own_setCell hown (show n0 < n0 + 1 by omega) 1 (.int .i64 0))
      have q0 : (wr.setCell ⟨n0, 1, none⟩ (.int .i64 0)).cell? ⟨n0, 0, none⟩ = some (.int .i64 0) := (HB5.out.cell 0).trans rfl
      have q1 : (wr.setCell ⟨n0, 1, none⟩ (.int .i64 0)).cell? ⟨n0, 1, none⟩ = some (.int .i64 0) := (HB5.out.cell 1).trans rfl
      have q2 : (wr.setCell ⟨n0, 1, none⟩ (.int .i64 0)).cell? ⟨n0, 2, none⟩ = some (.int .i64 0) := (HB5.out.cell 2).trans rfl
      clear hown hBw hBn
      go_wp2_with fail
      clear z1 d1 q0 q1 q2
      generalize wr.setCell ⟨n0, 1, none⟩ (.int .i64 0) = w5 at *
      refine (HR.out _ (HO.out.below HQ5.out)).mono ?_
      rintro e' w6 ⟨rfl, hb6⟩
      have HB6 := Lib.hid (below_trans HQ5.out hb6)
      have HN6 := Lib.hid (HB5.out.below hb6 HB5.out.lt)
      have HO6 := Lib.hid (own_below HO5.out hb6)
      clear hb6 HQ5 HB5 HO5 HO4 HB4 HN4
      go_wp2_with (at_builtin; refine wpList_append_own _ rfl _ _ 41 rfl (n0 + 1) 9 i0 _ 1 16 Tryz.underlying41 hi hz0 hz1 hz2 rfl (by decide) _ _ _ rfl (HO6.out.alloc _) ⟨w6.heap.size, 0, none⟩ 1 1 [str [97, 97, 98]] rfl rfl (new_str _ _) (fun u hu => by simp at hu; subst hu; rfl) (by unfold maxLen; omega) (by omega) (by have := HN6.out.lt; simp; omega) ?_; intro v' w7 hown' hgrow _)
      have HB7 : Hid (Below w1.heap.size w1 w7) := Lib.hid ((HB6.out.alloc HB6.out.size (.cells #[str [97, 97, 98]] 9)).grown hgrow (by have := HB6.out.size; simp; omega) (fun b e => by have := (HO6.out.lt b e).1; have := Hn0.out; omega))
      have HO7 := Lib.hid hown'
      clear hgrow hown' HO6 HB6 HN6
      go_wp2_with fail
      go_roundw
      case rel => exact ⟨Lib.hid (.inr ⟨rfl, HO7.out⟩), HB7.out⟩
      case measure => simp [intOf]
    · clear hh
      obtain ⟨g, c, rfl, hc⟩ := HTail.out _ _ hown hBw
      have HBw := Lib.hid hBw
      have HCC := Lib.hid hc
      clear hown hBw hc HTail
      go_wp2_with fail
      go_ret
      exact ⟨g, c, rfl, HCC.out, HBw.out⟩
end Go.Proofs.YticjhkfidgkecaaGreatDoor
