/- SamplePlans. -/
import Derived.Test.YtfkhlglagokodaaA6
namespace Go.Proofs.Ytfkhlglagokodaa
open Go.RowKit Go.Shelf

theorem ldm_sc {ops : Array Oper} {rest : List Oper} {o : Oper} {a : Act} {w : World} {Q : Exit → Act → World → Prop} {b off : Nat} {S : Pl.Sc} (hr : w.rangeAt b off (scA S).toList) (hw : Region.wanted o (yielded ops a.tmps) = true) (x : Operand) (ho : o.op = .load 25 x)
    (hx : a.eval x = .pointer (some ⟨b, off, none⟩)) (h : wpList Try.prog ops Q rest (a.put o.dst (.agg (scA S))) w) : wpList Try.prog ops Q (o :: rest) a w :=
  wpList_wanted hw fun _ hK => wp_load_mid 25 x ho b off hx (scA S).toList _ hr Try.underlying25 rfl (by kernel_rfl) (hK _ _ h)

set_option maxRecDepth 100000 in
set_option maxHeartbeats 8000000 in
theorem law_plans (p : Pl.Pn) (S : Pl.Sc) (bad : Int) (w : World) :
    Calls Try.prog 3 #[.agg (pnA p), .agg (scA S), .int .i64 bad] w fun e w' => e = .returned (.bool true) ∧ Below w.heap.size w w' := by
  have hB0 := ((Below.refl w.heap.size w).alloc (Nat.le_refl _) (.cells (pnA p) 23)).alloc (by simp) (.cells (scA S) 25)
  have bP := (Blk.new w 23 (pnA p)).alloc (.cells (scA S) 25)
  have bS := Blk.new (w.alloc (.cells (pnA p) 23)) 25 (scA S)
  simp only [World.size_alloc] at bS
  have H1 := Lib.hid (fun (w' : World) => accepted_b p bad w')
  have H2 := Lib.hid (fun (w' : World) => raccepted_b p bad w')
  have H3 := Lib.hid (fun (w' : World) => valid_b p _ rfl w')
  have H4 := Lib.hid (fun (w' : World) => rvalid_b p _ rfl w')
  have H5 := Lib.hid (fun (w' : World) => vscheme_b S w')
  have H6 := Lib.hid (fun (w' : World) => rvscheme_b S w')
  have H7 := Lib.hid awake_any
  generalize Pl.acV p bad = v1 at *
  generalize Pl.acE p bad = v2 at *
  generalize Pl.vP p = v3 at *
  generalize Pl.vS S = v4 at *
  have hr0 := bP.range
  go_enter Try.func3, Try.ntmps3
  go_wp2_with (refine ldm_pn hr0 rfl _ rfl rfl ?_)
  refine (H1.out _).mono ?_
  rintro e w1 ⟨rfl, hb1⟩
  have hB1 := hB0.trans (hb1.mono hB0.size)
  have bP1 := bP.below hb1 bP.lt
  have bS1 := bS.below hb1 bS.lt
  have hr1 := bP1.range
  clear hb1 hB0 bP bS hr0
  go_wp2_with (refine ldm_pn hr1 rfl _ rfl rfl ?_)
  refine (H2.out _).mono ?_
  rintro e w2 ⟨rfl, hb2⟩
  have hB2 := hB1.trans (hb2.mono hB1.size)
  have bP2 := bP1.below hb2 bP1.lt
  have bS2 := bS1.below hb2 bS1.lt
  clear hb2 hB1 bP1 bS1 hr1
  go_wp2
  have p0 := fun e : Ext w2 => e.cell ((bP2.cell 0).trans rfl)
  have p1 := fun e : Ext w2 => e.cell ((bP2.cell 1).trans rfl)
  have s0 := fun e : Ext w2 => e.cell ((bS2.cell 0).trans rfl)
  have s1 := fun e : Ext w2 => e.cell ((bS2.cell 1).trans rfl)
  have s2 := fun e : Ext w2 => e.cell ((bS2.cell 2).trans rfl)
  have s3 := fun e : Ext w2 => e.cell ((bS2.cell 3).trans rfl)
  have s4 := fun e : Ext w2 => e.cell ((bS2.cell 4).trans rfl)
  have s5 := fun e : Ext w2 => e.cell ((bS2.cell 5).trans rfl)
  refine wp_region_ext (by kernel_rfl) (by kernel_rfl) ?_
  repeat (go_big_quiet_step (first | (go_at_call 17; refine calls_ext (H3.out _)) | (go_at_call 18; refine calls_ext (H4.out _)) | (go_at_call 19; refine calls_ext (H5.out _)) | (go_at_call 20; refine calls_ext (H6.out _)) | (go_at_call 21; refine calls_ext (H7.out _))))
  refine wpQuiet_nil ?_
  rintro _ ⟨x, rfl⟩
  have hB3 := hB2.trans (x.h.mono hB2.size)
  go_wp2
  go_ret
  exact ⟨rfl, hB3⟩
end Go.Proofs.Ytfkhlglagokodaa
