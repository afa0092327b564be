/- The law's sanity step; ValidScheme of both sides. -/
import Derived.Test.YtfkhlglagokodaaA5
namespace Go.Proofs.Ytfkhlglagokodaa
open Go.RowKit Go.Shelf

set_option maxRecDepth 100000 in
set_option maxHeartbeats 1000000 in
theorem awake_any (w : World) :
    Calls Try.prog 21 #[] w fun e w' => e = .returned (.bool true) ∧ Below w.heap.size w w' := by
  have HC := Lib.hid (fun (w' : World) => Chance_b ⟨2, 0⟩ 4 1 w')
  rw [show Pl.Cn ⟨2, 0⟩ 4 1 = 1 from by decide +kernel, show Pl.Cd ⟨2, 0⟩ 4 1 = 2 from by decide +kernel, show Pl.Ce ⟨2, 0⟩ 4 1 = 0 from by decide +kernel] at HC
  go_enter Try.func21, Try.ntmps21
  go_wp2_with fail
  refine (HC.out _).mono ?_
  rintro e w1 ⟨rfl, hb1⟩
  go_wp2
  go_ret
  exact ⟨rfl, hb1⟩

/-- a scheme -/
abbrev scA (S : Pl.Sc) : Array Value := #[.int .i64 S.n.s, .int .i64 S.n.a, .int .i64 S.t.s, .int .i64 S.t.a, .int .i64 S.r.s, .int .i64 S.r.a]
theorem sc_parts {W : World} {b off : Nat} {S : Pl.Sc} (h : W.rangeAt b off (scA S).toList) : W.rangeAt b off (pnA S.n).toList ∧ W.rangeAt b (off + 2) (pnA S.t).toList ∧ W.rangeAt b (off + 4) (pnA S.r).toList := by
  refine ⟨fun j v hj => ?_, fun j v hj => ?_, fun j v hj => ?_⟩
  · match j, hj with
    | 0, hj => exact h 0 _ hj
    | 1, hj => exact h 1 _ hj
  · match j, hj with
    | 0, hj => exact h 2 _ hj
    | 1, hj => exact h 3 _ hj
  · match j, hj with
    | 0, hj => exact h 4 _ hj
    | 1, hj => exact h 5 _ hj
/-- how far a scheme's validity is asked -/
theorem vS_cases (S : Pl.Sc) (x1 x2 x3 : Bool) (h1 : Pl.vP S.n = x1) (h2 : Pl.vP S.t = x2) (h3 : Pl.vP S.r = x3) :
    (x1 = false ∧ Pl.vS S = false) ∨ (x1 = true ∧ x2 = false ∧ Pl.vS S = false) ∨ (x1 = true ∧ x2 = true ∧ x3 = false ∧ Pl.vS S = false) ∨
    (x1 = true ∧ x2 = true ∧ x3 = true ∧ (¬ S.t.a ≤ S.n.a) ∧ Pl.vS S = false) ∨ (x1 = true ∧ x2 = true ∧ x3 = true ∧ S.t.a ≤ S.n.a ∧ (¬ S.n.s ≤ S.t.s) ∧ Pl.vS S = false) ∨
    (x1 = true ∧ x2 = true ∧ x3 = true ∧ S.t.a ≤ S.n.a ∧ S.n.s ≤ S.t.s ∧ Pl.vS S = decide (S.r.s ≤ S.n.s)) := by
  unfold Pl.vS
  rw [h1, h2, h3]
  cases x1 <;> cases x2 <;> cases x3 <;> simp
  by_cases c1 : S.t.a ≤ S.n.a <;> by_cases c2 : S.n.s ≤ S.t.s <;> simp [c1, c2] <;> omega

set_option maxRecDepth 100000 in
set_option maxHeartbeats 8000000 in
theorem vscheme_b (S : Pl.Sc) (w : World) :
    Calls Try.prog 19 #[.agg (scA S)] w fun e w' => e = .returned (.bool (Pl.vS S)) ∧ Below w.heap.size w w' := by
  have hB := (Below.refl w.heap.size w).alloc (Nat.le_refl _) (.cells (scA S) 25)
  have bT := Blk.new w 25 (scA S)
  obtain ⟨x1, h1⟩ : ∃ x, Pl.vP S.n = x := ⟨_, rfl⟩
  obtain ⟨x2, h2⟩ : ∃ x, Pl.vP S.t = x := ⟨_, rfl⟩
  obtain ⟨x3, h3⟩ : ∃ x, Pl.vP S.r = x := ⟨_, rfl⟩
  have HV1 := Lib.hid (valid_b S.n x1 h1)
  have HV2 := Lib.hid (valid_b S.t x2 h2)
  have HV3 := Lib.hid (valid_b S.r x3 h3)
  obtain ⟨p1, p2, p3⟩ := sc_parts bT.range
  have hc := vS_cases S x1 x2 x3 h1 h2 h3
  clear h1 h2 h3
  have hT := bT.lt
  rcases hc with ⟨rfl, hv⟩ | ⟨rfl, rfl, hv⟩ | ⟨rfl, rfl, rfl, hv⟩ | ⟨rfl, rfl, rfl, c1, hv⟩ | ⟨rfl, rfl, rfl, c1, c2, hv⟩ | ⟨rfl, rfl, rfl, c1, c2, hv⟩ <;>
  (have HV := Lib.hid hv
   clear hv
   go_enter Try.func19, Try.ntmps19
   go_wp2_with (refine ldm_pn p1 rfl _ rfl rfl ?_)
   refine (HV1.out _).mono ?_
   rintro e w1 ⟨rfl, hb1⟩
   have hB1 := hB.trans (hb1.mono hB.size)
   have bT1 := bT.below hb1 bT.lt
   obtain ⟨_, p2, p3⟩ := sc_parts bT1.range
   try (
     go_wp2_with (refine ldm_pn p2 rfl _ rfl rfl ?_)
     refine (HV2.out _).mono ?_
     rintro e w2 ⟨rfl, hb2⟩
     have hB2 := hB1.trans (hb2.mono hB1.size)
     have bT2 := bT1.below hb2 bT1.lt
     obtain ⟨_, _, p3⟩ := sc_parts bT2.range
     try (
       go_wp2_with (refine ldm_pn p3 rfl _ rfl rfl ?_)
       refine (HV3.out _).mono ?_
       rintro e w3 ⟨rfl, hb3⟩
       have hB3 := hB2.trans (hb3.mono hB2.size)
       have bT3 := bT2.below hb3 bT2.lt
       have q0 := bT3.cell 0
       have q1 := bT3.cell 1
       have q2 := bT3.cell 2
       have q3 := bT3.cell 3
       have q4 := bT3.cell 4))
   go_wp2
   go_ret
   first | exact ⟨by rw [HV.out]; rfl, hB3⟩ | exact ⟨by rw [HV.out]; rfl, hB2⟩ | exact ⟨by rw [HV.out]; rfl, hB1⟩)

set_option maxRecDepth 100000 in
set_option maxHeartbeats 8000000 in
theorem rvscheme_b (S : Pl.Sc) (w : World) :
    Calls Try.prog 20 #[.agg (scA S)] w fun e w' => e = .returned (.bool (Pl.vS S)) ∧ Below w.heap.size w w' := by
  have hB := (Below.refl w.heap.size w).alloc (Nat.le_refl _) (.cells (scA S) 25)
  have bT := Blk.new w 25 (scA S)
  obtain ⟨x1, h1⟩ : ∃ x, Pl.vP S.n = x := ⟨_, rfl⟩
  obtain ⟨x2, h2⟩ : ∃ x, Pl.vP S.t = x := ⟨_, rfl⟩
  obtain ⟨x3, h3⟩ : ∃ x, Pl.vP S.r = x := ⟨_, rfl⟩
  have HV1 := Lib.hid (rvalid_b S.n x1 h1)
  have HV2 := Lib.hid (rvalid_b S.t x2 h2)
  have HV3 := Lib.hid (rvalid_b S.r x3 h3)
  obtain ⟨p1, p2, p3⟩ := sc_parts bT.range
  have hc := vS_cases S x1 x2 x3 h1 h2 h3
  clear h1 h2 h3
  have hT := bT.lt
  rcases hc with ⟨rfl, hv⟩ | ⟨rfl, rfl, hv⟩ | ⟨rfl, rfl, rfl, hv⟩ | ⟨rfl, rfl, rfl, c1, hv⟩ | ⟨rfl, rfl, rfl, c1, c2, hv⟩ | ⟨rfl, rfl, rfl, c1, c2, hv⟩ <;>
  (have HV := Lib.hid hv
   clear hv
   go_enter Try.func20, Try.ntmps20
   go_wp2_with (refine ldm_pn p1 rfl _ rfl rfl ?_)
   refine (HV1.out _).mono ?_
   rintro e w1 ⟨rfl, hb1⟩
   have hB1 := hB.trans (hb1.mono hB.size)
   have bT1 := bT.below hb1 bT.lt
   obtain ⟨_, p2, p3⟩ := sc_parts bT1.range
   try (
     go_wp2_with (refine ldm_pn p2 rfl _ rfl rfl ?_)
     refine (HV2.out _).mono ?_
     rintro e w2 ⟨rfl, hb2⟩
     have hB2 := hB1.trans (hb2.mono hB1.size)
     have bT2 := bT1.below hb2 bT1.lt
     obtain ⟨_, _, p3⟩ := sc_parts bT2.range
     try (
       go_wp2_with (refine ldm_pn p3 rfl _ rfl rfl ?_)
       refine (HV3.out _).mono ?_
       rintro e w3 ⟨rfl, hb3⟩
       have hB3 := hB2.trans (hb3.mono hB2.size)
       have bT3 := bT2.below hb3 bT2.lt
       have q0 := bT3.cell 0
       have q1 := bT3.cell 1
       have q2 := bT3.cell 2
       have q3 := bT3.cell 3
       have q4 := bT3.cell 4))
   go_wp2
   go_ret
   first | exact ⟨by rw [HV.out]; rfl, hB3⟩ | exact ⟨by rw [HV.out]; rfl, hB2⟩ | exact ⟨by rw [HV.out]; rfl, hB1⟩)
end Go.Proofs.Ytfkhlglagokodaa
