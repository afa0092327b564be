/- Chance, of the program; the law's sanity step. -/
import Derived.Test.YtfkhlglagokodaaA4
namespace Go.Proofs.Ytfkhlglagokodaa
open Go.RowKit Go.Shelf

set_option maxRecDepth 100000 in
set_option maxHeartbeats 4000000 in
theorem Chance_b (p : Pl.Pn) (L b : Int) (w : World) :
    Calls Try.prog 33 #[.agg (pnA p), .int .i64 L, .int .i64 b] w fun e w' => e = .returned (.tuple #[.int .i64 (Pl.Cn p L b), .int .i64 (Pl.Cd p L b), .int .i64 (Pl.Ce p L b)]) ∧ Below w.heap.size w w' := by
  have hB := (Below.refl w.heap.size w).alloc (Nat.le_refl _) (.cells (pnA p) 23)
  have bT := Blk.new w 23 (pnA p)
  have hr := bT.range
  obtain ⟨x1, h1⟩ : ∃ x, Pl.vP p = x := ⟨_, rfl⟩
  obtain ⟨x2, h2⟩ : ∃ x, Pl.inB p.s L 60 = x := ⟨_, rfl⟩
  obtain ⟨x3, h3⟩ : ∃ x, Pl.inB 0 b L = x := ⟨_, rfl⟩
  have HV := Lib.hid (valid_b p x1 h1)
  have H2 := Lib.hid h2
  have H3 := Lib.hid h3
  cases x1
  · obtain ⟨e1, e2, e3⟩ := Pl.Ce_not h1 L b
    have E1 := Lib.hid e1
    have E2 := Lib.hid e2
    have E3 := Lib.hid e3
    clear h1 h2 h3 e1 e2 e3 bT
    go_enter Try.func33, Try.ntmps33
    go_wp2_with (refine ldm_pn hr rfl _ rfl rfl ?_)
    refine (HV.out _).mono ?_
    rintro e w1 ⟨rfl, hb1⟩
    have hB1 := hB.trans (hb1.mono hB.size)
    go_wp2
    go_ret3
    exact ⟨by rw [E1.out, E2.out, E3.out]; rfl, hB1⟩
  by_cases hok : x2 = true ∧ x3 = true
  · obtain ⟨rfl, rfl⟩ := hok
    obtain ⟨s, a, l, c, rfl, rfl, rfl, q1, q2, q3, q4, e1, e2, e3⟩ := Pl.Ce_ok h1 h2 h3
    have E1 := Lib.hid e1
    have E2 := Lib.hid e2
    have E3 := Lib.hid e3
    have HC := Lib.hid (fun (w' : World) => chance_b s a l c q1 q2 q3 q4 w')
    clear h1 h2 h3 e1 e2 e3 q1 q2 q3 q4
    go_enter Try.func33, Try.ntmps33
    go_wp2_with (refine ldm_pn hr rfl _ rfl rfl ?_)
    refine (HV.out _).mono ?_
    rintro e w1 ⟨rfl, hb1⟩
    have hB1 := hB.trans (hb1.mono hB.size)
    have bT1 := bT.below hb1 bT.lt
    have q0 := bT1.cell 0
    have q1 := bT1.cell 1
    have hr1 := bT1.range
    clear bT bT1 hr hB
    go_wp2_with (first | refine ldm_pn hr1 rfl _ rfl rfl ?_ | (go_at_call 44; refine (within_any _ _ _ _).mono ?_; rintro e w1 ⟨rfl, rfl⟩; first | rw [H2.out] | rw [H3.out]))
    refine (HC.out _).mono ?_
    rintro e w2 ⟨rfl, hb2⟩
    have hB2 := hB1.trans (hb2.mono hB1.size)
    clear hb1 hb2 hB1 q0 q1 hr1
    go_wp2
    have bR := Blk.new w2 51 (frA (Pl.cn s a l c) (Pl.cd s a l c))
    have hB3 := hB2.alloc hB2.size (.cells (frA (Pl.cn s a l c) (Pl.cd s a l c)) 51)
    have r0 := (bR.cell 0).trans rfl
    have r1 := (bR.cell 1).trans rfl
    have z0 := fun e : Ext _ => e.cell r0
    have z1 := fun e : Ext _ => e.cell r1
    generalize w2.alloc (.cells (frA (Pl.cn s a l c) (Pl.cd s a l c)) 51) = w3 at *
    clear r0 r1 bR
    refine wp_region_ext (by kernel_rfl) (by kernel_rfl) ?_
    repeat (go_big_quiet_step (fail))
    refine wpQuiet_nil ?_
    rintro _ ⟨x, rfl⟩
    have hB4 := hB3.trans (x.h.mono hB3.size)
    go_wp2
    go_ret3
    exact ⟨by rw [E1.out, E2.out, E3.out]; rfl, hB4⟩
  · have hn : ¬ (Pl.inB p.s L 60 = true ∧ Pl.inB 0 b L = true) := by rw [h2, h3]; exact hok
    obtain ⟨e1, e2, e3⟩ := Pl.Ce_bad h1 hn
    have E1 := Lib.hid e1
    have E2 := Lib.hid e2
    have E3 := Lib.hid e3
    have hc : x2 = false ∨ (x2 = true ∧ x3 = false) := by cases x2 <;> cases x3 <;> simp_all
    clear h1 h2 h3 e1 e2 e3 hn hok
    rcases hc with rfl | ⟨rfl, rfl⟩ <;>
    (go_enter Try.func33, Try.ntmps33
     go_wp2_with (refine ldm_pn hr rfl _ rfl rfl ?_)
     refine (HV.out _).mono ?_
     rintro e w1 ⟨rfl, hb1⟩
     have hB1 := hB.trans (hb1.mono hB.size)
     have bT1 := bT.below hb1 bT.lt
     have q0 := bT1.cell 0
     have q1 := bT1.cell 1
     clear bT bT1 hr
     go_wp2_with (go_at_call 44; refine (within_any _ _ _ _).mono ?_; rintro e w1 ⟨rfl, rfl⟩; first | rw [H2.out] | rw [H3.out])
     go_ret3
     exact ⟨by rw [E1.out, E2.out, E3.out]; rfl, hB1⟩)
end Go.Proofs.Ytfkhlglagokodaa
