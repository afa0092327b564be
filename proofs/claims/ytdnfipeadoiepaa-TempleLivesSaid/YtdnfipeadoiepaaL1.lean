/- TempleHinges. -/
import Derived.Test.YtdnfipeadoiepaaG4
import Derived.Test.YtdnfipeadoiepaaV7
namespace Go.Proofs.Ytdnfipeadoiepaa
open Go.RowKit Go.Shelf

namespace Pl
/-- a hinge, its friction, a number of openings, the least friction -/
structure Hc where
  H : Hg
  f : Int
  n : Int
  a : Int
def zc : Hc := ⟨zh, 0, 0, 0⟩
end Pl
abbrev csA (c : Pl.Hc) : Array Value := #[.int .i64 c.H.b, .int .i64 c.H.start, .int .i64 c.H.wear, .int .i64 c.H.tight, .int .i64 c.f, .int .i64 c.n, .int .i64 c.a]
theorem cs_range {W : World} {b : Nat} {c : Pl.Hc} {t : TypeId} (h : Blk W b t (csA c)) : W.rangeAt b 0 (hgA c.H).toList := fun j v hj => by
  have h0 := h.range
  match j, hj with
  | 0, hj => exact h0 0 _ hj
  | 1, hj => exact h0 1 _ hj
  | 2, hj => exact h0 2 _ hj
  | 3, hj => exact h0 3 _ hj

set_option maxRecDepth 100000 in
set_option maxHeartbeats 8000000 in
theorem law_hinges (c : Pl.Hc) (w : World) :
    Calls Try.prog 10 #[.agg (csA c)] w fun e w' => e = .returned (.bool true) ∧ Below w.heap.size w w' := by
  have H1 := Lib.hid (Opened_any c.H c.f c.n)
  have H2 := Lib.hid (rOpened_any c.H c.f c.n)
  have H3 := Lib.hid (Tightened_any c.H c.f)
  have H4 := Lib.hid (rTightened_any c.H c.f)
  have H5 := Lib.hid (Life_any c.H c.f c.a)
  have H6 := Lib.hid (rLife_any c.H c.f c.a)
  have H7 := Lib.hid (Services_any c.H c.n c.a)
  have H8 := Lib.hid (rServices_any c.H c.n c.a)
  have H9 := Lib.hid (vhinge_b c.H _ rfl)
  have H10 := Lib.hid (rvhinge_b c.H _ rfl)
  generalize Pl.opV c.H c.f c.n = v1 at *
  generalize Pl.ckh c.H c.f c.n 0 = v2 at *
  generalize Pl.tiV c.H c.f = v3 at *
  generalize Pl.ckh c.H c.f 0 0 = v4 at *
  generalize Pl.liN (Pl.liO c.H c.f c.a) = v5 at *
  generalize Pl.liB (Pl.liO c.H c.f c.a) = v6 at *
  generalize Pl.ckh c.H c.f 0 c.a = v7 at *
  generalize Pl.svN (Pl.svO c.H c.n c.a) = v8 at *
  generalize Pl.svE (Pl.ckh c.H 0 c.n c.a) (Pl.svO c.H c.n c.a) = v9 at *
  generalize Pl.vhg c.H = v10 at *
  have hB0 := (Below.refl w.heap.size w).alloc (Nat.le_refl _) (.cells (csA c) 57)
  have bT0 := Blk.new w 57 (csA c)
  have hr0 := cs_range bT0
  have q4 := bT0.cell 4
  have q5 := bT0.cell 5
  go_enter Try.func10, Try.ntmps10
  go_wp2_with (refine ldm_hg hr0 rfl _ rfl rfl ?_)
  refine (H1.out _).mono ?_
  rintro e w1 ⟨rfl, hb⟩
  have hB1 := hB0.trans (hb.mono hB0.size)
  have bT1 := bT0.below hb bT0.lt
  have hr1 := cs_range bT1
  have q4 := bT1.cell 4
  have q5 := bT1.cell 5
  clear hb hr0 hB0 bT0
  go_wp2_with (refine ldm_hg hr1 rfl _ rfl rfl ?_)
  refine (H2.out _).mono ?_
  rintro e w2 ⟨rfl, hb⟩
  have hB2 := hB1.trans (hb.mono hB1.size)
  have bT2 := bT1.below hb bT1.lt
  have hr2 := cs_range bT2
  have q4 := bT2.cell 4
  clear hb hr1 hB1 bT1 q5
  go_wp2_with (refine ldm_hg hr2 rfl _ rfl rfl ?_)
  refine (H3.out _).mono ?_
  rintro e w3 ⟨rfl, hb⟩
  have hB3 := hB2.trans (hb.mono hB2.size)
  have bT3 := bT2.below hb bT2.lt
  have hr3 := cs_range bT3
  have q4 := bT3.cell 4
  clear hb hr2 hB2 bT2
  go_wp2_with (refine ldm_hg hr3 rfl _ rfl rfl ?_)
  refine (H4.out _).mono ?_
  rintro e w4 ⟨rfl, hb⟩
  have hB4 := hB3.trans (hb.mono hB3.size)
  have bT4 := bT3.below hb bT3.lt
  have z0 := fun e : Ext w4 => e.cell ((bT4.cell 0).trans rfl)
  have z1 := fun e : Ext w4 => e.cell ((bT4.cell 1).trans rfl)
  have z2 := fun e : Ext w4 => e.cell ((bT4.cell 2).trans rfl)
  have z3 := fun e : Ext w4 => e.cell ((bT4.cell 3).trans rfl)
  clear hb hr3 hB3 bT3 q4
  go_wp2
  refine wp_region_ext (by kernel_rfl) (by kernel_rfl) ?_
  repeat (go_big_quiet_step ((first | (go_at_call 41; refine calls_ext (H9.out _)) | (go_at_call 42; refine calls_ext (H10.out _)))))
  refine wpQuiet_nil ?_
  rintro _ ⟨e, rfl⟩
  have hB5 := hB4.trans (e.h.mono hB4.size)
  have bT5 := bT4.below e.h bT4.lt
  generalize e.w = w5 at *
  have hr5 := cs_range bT5
  have q4 := bT5.cell 4
  have q6 := bT5.cell 6
  clear z0 z1 z2 z3 e hB4 bT4
  go_wp2_with (refine ldm_hg hr5 rfl _ rfl rfl ?_)
  refine (H5.out _).mono ?_
  rintro e w6 ⟨rfl, hb⟩
  have hB6 := hB5.trans (hb.mono hB5.size)
  have bT6 := bT5.below hb bT5.lt
  have hr6 := cs_range bT6
  have q4 := bT6.cell 4
  have q6 := bT6.cell 6
  clear hb hr5 hB5 bT5
  go_wp2_with (refine ldm_hg hr6 rfl _ rfl rfl ?_)
  refine (H6.out _).mono ?_
  rintro e w7 ⟨rfl, hb⟩
  have hB7 := hB6.trans (hb.mono hB6.size)
  have bT7 := bT6.below hb bT6.lt
  have hr7 := cs_range bT7
  have q5 := bT7.cell 5
  have q6 := bT7.cell 6
  clear hb hr6 hB6 bT6 q4
  go_wp2_with (refine ldm_hg hr7 rfl _ rfl rfl ?_)
  refine (H7.out _).mono ?_
  rintro e w8 ⟨rfl, hb⟩
  have hB8 := hB7.trans (hb.mono hB7.size)
  have bT8 := bT7.below hb bT7.lt
  have hr8 := cs_range bT8
  have q5 := bT8.cell 5
  have q6 := bT8.cell 6
  clear hb hr7 hB7 bT7
  go_wp2_with (refine ldm_hg hr8 rfl _ rfl rfl ?_)
  refine (H8.out _).mono ?_
  rintro e w9 ⟨rfl, hb⟩
  have hB9 := hB8.trans (hb.mono hB8.size)
  clear hb hr8 hB8 bT8 q5 q6
  go_wp2_with fail
  refine (sane_any _).mono ?_
  rintro e w10 ⟨rfl, hb⟩
  go_wp2
  go_ret
  exact ⟨rfl, hB9.trans (hb.mono hB9.size)⟩
end Go.Proofs.Ytdnfipeadoiepaa
