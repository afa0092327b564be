/- The law of books. -/
import Derived.Test.YtalfffkcmddakaaQ6
import Derived.Test.YtalfffkcmddakaaZ8
namespace Go.Proofs.Ytalfffkcmddakaa
open Go.RowKit Go.Shelf

theorem so_len (l : List Pl.En) : (Pl.soV l).length ≤ 1000 := by
  unfold Pl.soV
  split
  · rename_i h; rw [Pl.srt_len]; have := (Pl.vb_iff.1 h).len; omega
  · simp
theorem ad_len (l : List Pl.En) (x : Pl.En) : (Pl.adV l x).length ≤ 1000 := by
  unfold Pl.adV
  split
  · rename_i h; rw [Pl.srt_len]; have := (Pl.ad_vb h).len; omega
  · simp
set_option maxRecDepth 100000 in
set_option maxHeartbeats 8000000 in
theorem law_books (A : Option Addr) (l : List Pl.En) (c n : Nat) (hn : l.length = n) (x : Pl.En) (w : World) (hnc : n ≤ c) (hm : c ≤ maxLen) (hI : Rows enL 4 w A l) :
    Calls Try.prog 3 #[.slice A n c, .agg (enA x)] w fun e w' => e = .returned (.bool true) ∧ Below w.heap.size w w' := by
  have hB := (Below.refl w.heap.size w).alloc (Nat.le_refl _) (.cells (enA x) 24)
  have bX := Blk.new w 24 (enA x)
  have hmn : n ≤ maxLen := Nat.le_trans hnc hm
  have HB := Lib.hid hB
  have H1 := Lib.hid (fun W (h : Below w.heap.size w W) => sorted2_any A l c n hn hmn W (hI.below h))
  have H2 := Lib.hid (fun W (h : Below w.heap.size w W) => dsorted2_any A l c n hn hnc hmn W (hI.below h))
  have H3 := Lib.hid (fun W (h : Below w.heap.size w W) => valid_any A l c n hn hmn _ rfl W (hI.below h))
  have H4 := Lib.hid (fun W (h : Below w.heap.size w W) => dvalid_any A l c n hn hnc hmn _ rfl W (hI.below h))
  have H5 := Lib.hid (fun W (h : Below w.heap.size w W) => add_any A l c n hn hmn x W (hI.below h))
  have H6 := Lib.hid (fun W (h : Below w.heap.size w W) => dadd_any A l c n hn hnc hmn x W (hI.below h))
  obtain ⟨y, hy⟩ : ∃ y, Pl.vB l = y := ⟨_, rfl⟩
  rw [hy] at H3 H4
  have HSL := Lib.hid (so_len l)
  have HAL := Lib.hid (ad_len l x)
  generalize Pl.soE l = se at *
  generalize Pl.soV l = sv at *
  generalize Pl.adE l x = ae at *
  generalize Pl.adV l x = av at *
  clear hn hnc hm hI hB hmn hy
  go_enter Try.func3, Try.ntmps3
  go_wp2_with fail
  refine (H1.out _ HB.out).mono ?_
  rintro e w1 ⟨v1, rfl, hO1, hb1⟩
  obtain ⟨A1, c1, rfl, hR1, _, _, _⟩ := rows_own2 rfl hO1
  have HB1 := Lib.hid (HB.out.trans (hb1.mono HB.out.size))
  have bX1 := bX.below hb1 bX.lt
  clear hO1 hb1 bX
  go_wp2_with fail
  refine (H2.out _ HB1.out).mono ?_
  rintro e w2 ⟨v2, rfl, hO2, hb2⟩
  obtain ⟨A2, c2, rfl, hR2, _, _, _⟩ := rows_own2 rfl hO2
  have HB2 := Lib.hid (HB1.out.trans (hb2.mono HB1.out.size))
  have bX2 := bX1.below hb2 bX1.lt
  have hR1b := hR1.below hb2
  clear hO2 hb2 bX1 hR1
  go_wp2_with fail
  refine (H3.out _ HB2.out).mono ?_
  rintro e w3 ⟨rfl, hb3⟩
  have HB3 := Lib.hid (HB2.out.trans (hb3.mono HB2.out.size))
  have bX3 := bX2.below hb3 bX2.lt
  have hR1c := hR1b.below hb3
  have hR2c := hR2.below hb3
  clear hb3 bX2 hR1b hR2
  go_wp2_with fail
  refine (H4.out _ HB3.out).mono ?_
  rintro e w4 ⟨rfl, hb4⟩
  have HB4 := Lib.hid (HB3.out.trans (hb4.mono HB3.out.size))
  have bX4 := bX3.below hb4 bX3.lt
  have HR1d := Lib.hid (hR1c.below hb4)
  have HR2d := Lib.hid (hR2c.below hb4)
  have n1 : (y != y) = false := by simp
  have n2 : (se != se) = false := by simp
  clear hb4 bX3 hR1c hR2c
  go_wp2_with fail
  refine (same_eq A1 A2 sv c1 c2 sv.length rfl HSL.out w4 HR1d.out HR2d.out).mono ?_
  rintro e w5 ⟨rfl, hb5⟩
  have HB5 := Lib.hid (HB4.out.trans (hb5.mono HB4.out.size))
  have bX5 := bX4.below hb5 bX4.lt
  have hr5 := bX5.range
  clear hb5 bX4 HR1d HR2d
  go_wp2_with (refine ldm_en hr5 rfl _ rfl rfl ?_)
  refine (H5.out _ HB5.out).mono ?_
  rintro e w6 ⟨v6, rfl, hO6, hb6⟩
  obtain ⟨A6, c6, rfl, hR6, _, _, _⟩ := rows_own2 rfl hO6
  have HB6 := Lib.hid (HB5.out.trans (hb6.mono HB5.out.size))
  have bX6 := bX5.below hb6 bX5.lt
  have hr6 := bX6.range
  clear hO6 hb6 bX5 hr5
  go_wp2_with (refine ldm_en hr6 rfl _ rfl rfl ?_)
  refine (H6.out _ HB6.out).mono ?_
  rintro e w7 ⟨v7, rfl, hO7, hb7⟩
  obtain ⟨A7, c7, rfl, hR7, _, _, _⟩ := rows_own2 rfl hO7
  have HB7 := Lib.hid (HB6.out.trans (hb7.mono HB6.out.size))
  have HR6b := Lib.hid (hR6.below hb7)
  have HR7 := Lib.hid hR7
  clear hO7 hb7 bX6 hr6 hR6 hR7
  have n3 : (ae == ae) = true := by simp
  go_wp2_with fail
  refine (same_eq A6 A7 av c6 c7 av.length rfl HAL.out w7 HR6b.out HR7.out).mono ?_
  rintro e w8 ⟨rfl, hb8⟩
  have HB8 := Lib.hid (HB7.out.trans (hb8.mono HB7.out.size))
  clear hb8
  go_wp2_with fail
  refine (awake_any w8).mono ?_
  rintro e w9 ⟨rfl, hb9⟩
  have HB9 := Lib.hid (HB8.out.trans (hb9.mono HB8.out.size))
  clear hb9
  go_wp2
  go_ret
  exact ⟨rfl, HB9.out⟩
end Go.Proofs.Ytalfffkcmddakaa
