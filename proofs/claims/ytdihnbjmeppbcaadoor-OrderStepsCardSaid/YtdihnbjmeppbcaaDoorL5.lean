/- OrderPrices. -/
import Derived.Test.YtdihnbjmeppbcaaDoorWL
import Derived.Test.YtdihnbjmeppbcaaDoorL3
namespace Go.Proofs.YtdihnbjmeppbcaaDoor
open Go.RowKit Go.Shelf

abbrev asA (s : ByteArray) (x y : Int) : Array Value := #[.string s, .int .i64 x, .int .i64 y]
theorem chn_le {l : List Pl.Pr} {s : ByteArray} {x y : Int} (h : Pl.prG l s x y = 0) : Pl.chS l s x y ≤ y * Pl.prU l s x y ∧ y ≤ Pl.chN l s x y := by
  unfold Pl.chS Pl.chN Pl.prU
  rw [if_pos h, if_pos h]
  exact Pl.chp_le _ _ _

set_option maxRecDepth 100000 in
set_option maxHeartbeats 8000000 in
theorem law_prices (A : Option Addr) (l : List Pl.Pr) (c : Nat) (B : Option Addr) (r : List Pl.Rt) (j : Nat) (s : ByteArray) (x y : Int) (w : World) (hP : PrsIn w A l c) (hR : RtsIn w B r j) (hs : s.size ≤ maxLen) :
    Calls Tryd.prog 4 #[.agg (mkA A l c B r j), .agg (asA s x y)] w fun e w' => e = .returned (.bool true) ∧ Below w.heap.size w w' := by
  have s63 := max63 hs
  have hB0 := (Below.refl w.heap.size w).alloc (Nat.le_refl _) (.cells (mkA A l c B r j) 25)
  have hB := hB0.alloc (by simp) (.cells (asA s x y) 35)
  have bM := (Blk.new w 25 (mkA A l c B r j)).alloc (.cells (asA s x y) 35)
  have bY := Blk.new (w.alloc (.cells (mkA A l c B r j) 25)) 35 (asA s x y)
  simp only [World.size_alloc] at bY
  have HC := Lib.hid sane_any
  have HW := Lib.hid (fun w' hb => wide_any A l c B r j zFm w' (hP.below (W' := w') hb) (hR.below hb) (zFm_in _))
  have H1 := Lib.hid (fun w' hb => Price_b A l c _ rfl s x y w' (hP.below (W' := w') hb))
  have H2 := Lib.hid (fun w' hb => rPrice_b A l c _ rfl s x y w' (hP.below (W' := w') hb))
  have H3 := Lib.hid (fun w' hb => Cheapest_b A l c _ rfl s x y w' (hP.below (W' := w') hb))
  have H4 := Lib.hid (fun w' hb => rCheapest_b A l c _ rfl s x y w' (hP.below (W' := w') hb))
  have HLE : Hid (Pl.prG l s x y = 0 → Pl.chS l s x y ≤ y * Pl.prU l s x y ∧ y ≤ Pl.chN l s x y) := Lib.hid chn_le
  have HOV : Hid (Pl.prG l s x y = 0 → -1000000000000 ≤ y * Pl.prU l s x y ∧ y * Pl.prU l s x y ≤ 1000000000000) := Lib.hid (fun h => by
    have h1 := Pl.prG_ok h
    have h2 := Pl.cen_in (Pl.prF_st h).ok y (Nat.le_refl _)
    have h3 := Pl.mul_le (A := 100000) (show -100000 ≤ y by omega) h1.2.2.1 h2.1 h2.2 (by decide)
    exact h3)
  generalize Pl.prU l s x y = U at *
  generalize Pl.prG l s x y = E at *
  generalize Pl.chN l s x y = N at *
  generalize Pl.chS l s x y = S at *
  have hr1 := bM.range
  have hMl := bM.lt
  have hYl := bY.lt
  have y0 := bY.cell 0
  have HM := Lib.hid bM
  have HY := Lib.hid bY
  generalize hWo : (w.alloc (.cells (mkA A l c B r j) 25)).alloc (.cells (asA s x y) 35) = W at *
  clear hP hR hs bM bY hB0
  go_enter Tryd.func4, Tryd.ntmps4
  go_wp2_with (refine ldm_mk hr1 rfl _ rfl rfl ?_)
  refine (HW.out _ hB).mono ?_
  rintro e w2 ⟨⟨v, rfl⟩, hb2⟩
  have hB2 := hB.trans (hb2.mono hB.size)
  have bM2 := HM.out.below hb2 hMl
  have bY2 := HY.out.below hb2 hYl
  have hMl2 := bM2.lt
  have hYl2 := bY2.lt
  have m0 := bM2.cell 0
  have a0 := bY2.cell 0
  have a1 := bY2.cell 1
  have a2 := bY2.cell 2
  clear hr1 hb2 HW hB HM HY hWo hMl hYl y0
  cases v
  rotate_left
  · go_wp2_with fail
    refine (HC.out _).mono ?_
    rintro e w3 ⟨rfl, hb3⟩
    have hB3 := hB2.trans (hb3.mono hB2.size)
    go_wp2
    go_ret
    exact ⟨rfl, hB3⟩
  by_cases h40 : (40 : Int) < (s.size : Int)
  · go_wp2_with fail
    refine (HC.out _).mono ?_
    rintro e w3 ⟨rfl, hb3⟩
    have hB3 := hB2.trans (hb3.mono hB2.size)
    go_wp2
    go_ret
    exact ⟨rfl, hB3⟩
  go_wp2_with fail
  refine (H1.out _ hB2).mono ?_
  rintro e w3 ⟨rfl, hb3⟩
  have hB3 := hB2.trans (hb3.mono hB2.size)
  have bM3 := bM2.below hb3 hMl2
  have bY3 := bY2.below hb3 hYl2
  have hMl3 := bM3.lt
  have hYl3 := bY3.lt
  clear m0 a0 a1 a2 bM2 bY2 hb3 hMl2 hYl2 hB2 H1
  have m0 := bM3.cell 0
  have a0 := bY3.cell 0
  have a1 := bY3.cell 1
  have a2 := bY3.cell 2
  go_wp2_with fail
  refine (H2.out _ hB3).mono ?_
  rintro e w4 ⟨rfl, hb4⟩
  have hB4 := hB3.trans (hb4.mono hB3.size)
  have bM4 := bM3.below hb4 hMl3
  have bY4 := bY3.below hb4 hYl3
  have hMl4 := bM4.lt
  have hYl4 := bY4.lt
  clear m0 a0 a1 a2 bM3 bY3 hb4 hMl3 hYl3 hB3 H2
  have m0 := bM4.cell 0
  have a0 := bY4.cell 0
  have a1 := bY4.cell 1
  have a2 := bY4.cell 2
  go_wp2_with fail
  refine (H3.out _ hB4).mono ?_
  rintro e w5 ⟨rfl, hb5⟩
  have hB5 := hB4.trans (hb5.mono hB4.size)
  have bM5 := bM4.below hb5 hMl4
  have bY5 := bY4.below hb5 hYl4
  have hYl5 := bY5.lt
  clear m0 a0 a1 a2 bM4 bY4 hb5 hMl4 hYl4 hB4 H3
  have m0 := bM5.cell 0
  have a0 := bY5.cell 0
  have a1 := bY5.cell 1
  have a2 := bY5.cell 2
  go_wp2_with fail
  refine (H4.out _ hB5).mono ?_
  rintro e w6 ⟨rfl, hb6⟩
  have hB6 := hB5.trans (hb6.mono hB5.size)
  have bY6 := bY5.below hb6 hYl5
  have hYl6 := bY6.lt
  clear m0 a0 a1 a2 bM5 bY5 hb6 hYl5 hB5 H4
  go_wp2_with fail
  refine (HC.out _).mono ?_
  rintro e w7 ⟨rfl, hb7⟩
  have hB7 := hB6.trans (hb7.mono hB6.size)
  have bY7 := bY6.below hb7 hYl6
  have a2 := bY7.cell 2
  clear hb7 bY6 hYl6 hB6 HC bY7
  by_cases hE : E = 0
  · have h1 := HLE.out hE
    have h2 := HOV.out hE
    subst hE
    have kp : IntKind.i64.wrap (y * U) = y * U := IntWalk.i64_in _ (by omega)
    have d1 : decide (S ≤ y * U) = true := decide_eq_true h1.1
    have d2 : decide (N ≥ y) = true := decide_eq_true h1.2
    clear h1 h2
    go_wp2
    go_ret
    exact ⟨rfl, hB7⟩
  · have d1 : (E == 0) = false := by simpa using hE
    go_wp2
    go_ret
    exact ⟨rfl, hB7⟩
end Go.Proofs.YtdihnbjmeppbcaaDoor
