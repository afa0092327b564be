/- May, of the program and of the document; BarrelValid. -/
import Derived.Test.YtlfbfdhdkccaeaaN1
namespace Go.Proofs.Ytlfbfdhdkccaeaa
open Go.RowKit Go.Shelf

/-- May -/
def Pl.mV (a b : Pl.Bt) : Bool := if Pl.vb a = true ∧ Pl.vb b = true then Pl.may a b else false
def Pl.mE (a b : Pl.Bt) : Int := if Pl.vb a = true ∧ Pl.vb b = true then 0 else 60

def MayPost (a b : Pl.Bt) (w : World) (e : Ending) (w' : World) : Prop := e = .returned (.tuple #[.bool (Pl.mV a b), .int .i64 (Pl.mE a b)]) ∧ Below w.heap.size w w'

set_option maxRecDepth 100000 in
set_option maxHeartbeats 2000000 in
theorem May_any (a b : Pl.Bt) (w : World) :
    Calls Try.prog 17 #[.agg (btA a), .agg (btA b)] w fun e w' => e = .returned (.tuple #[.bool (Pl.mV a b), .int .i64 (Pl.mE a b)]) ∧ Below w.heap.size w w' := by
  have hB := ((Below.refl w.heap.size w).alloc (Nat.le_refl _) (.cells (btA a) 25)).alloc (by simp) (.cells (btA b) 25)
  have bA := (Blk.new w 25 (btA a)).alloc (.cells (btA b) 25)
  have bB := Blk.new (w.alloc (.cells (btA a) 25)) 25 (btA b)
  simp only [World.size_alloc] at bB
  have hra := bA.range
  have hrb := bB.range
  obtain ⟨mv, hmv⟩ : ∃ v, Pl.mV a b = v := ⟨_, rfl⟩
  obtain ⟨me, hme⟩ : ∃ v, Pl.mE a b = v := ⟨_, rfl⟩
  rw [hmv, hme]
  unfold Pl.mV at hmv
  unfold Pl.mE at hme
  obtain ⟨x1, h1⟩ : ∃ x, Pl.vb a = x := ⟨_, rfl⟩
  obtain ⟨x2, h2⟩ : ∃ x, Pl.vb b = x := ⟨_, rfl⟩
  obtain ⟨y, hy⟩ : ∃ y, Pl.may a b = y := ⟨_, rfl⟩
  rw [h1, h2, hy] at hmv
  rw [h1, h2] at hme
  have HV := Lib.hid hmv.symm
  have HE := Lib.hid hme.symm
  clear hmv hme
  have H1 := Lib.hid h1
  have H2 := Lib.hid h2
  have HY := Lib.hid hy
  clear h1 h2 hy
  cases x1
  · go_enter Try.func17, Try.ntmps17
    go_wp2_with (first | refine ldm_bt hra rfl _ rfl rfl ?_ | refine ldm_bt hrb rfl _ rfl rfl ?_)
    refine (vbatch_b _ _ H1.out _).mono ?_
    rintro e w1 ⟨rfl, hb1⟩
    have hB1 := hB.trans (hb1.mono hB.size)
    go_wp2
    go_ret2
    exact ⟨by rw [HV.out, HE.out]; simp, hB1⟩
  · go_enter Try.func17, Try.ntmps17
    go_wp2_with (first | refine ldm_bt hra rfl _ rfl rfl ?_ | refine ldm_bt hrb rfl _ rfl rfl ?_)
    refine (vbatch_b _ _ H1.out _).mono ?_
    rintro e w1 ⟨rfl, hb1⟩
    have hB1 := hB.trans (hb1.mono hB.size)
    have bA1 := bA.below hb1 bA.lt
    have bB1 := bB.below hb1 bB.lt
    have hra1 := bA1.range
    have hrb1 := bB1.range
    clear hb1 bA bB hB hra hrb
    go_wp2_with (first | refine ldm_bt hra1 rfl _ rfl rfl ?_ | refine ldm_bt hrb1 rfl _ rfl rfl ?_)
    refine (vbatch_b _ _ H2.out _).mono ?_
    rintro e w2 ⟨rfl, hb2⟩
    have hB2 := hB1.trans (hb2.mono hB1.size)
    have hra2 := (bA1.below hb2 bA1.lt).range
    have hrb2 := (bB1.below hb2 bB1.lt).range
    clear hb2 bA1 bB1 hB1 hra1 hrb1
    cases x2
    · go_wp2
      go_ret2
      exact ⟨by rw [HV.out, HE.out]; simp, hB2⟩
    · go_wp2_with (first | refine ldm_bt hra2 rfl _ rfl rfl ?_ | refine ldm_bt hrb2 rfl _ rfl rfl ?_)
      refine (may_b _ _ _ HY.out _).mono ?_
      rintro e w3 ⟨rfl, hb3⟩
      have hB3 := hB2.trans (hb3.mono hB2.size)
      go_wp2
      go_ret2
      exact ⟨by rw [HV.out, HE.out]; simp, hB3⟩

set_option maxRecDepth 100000 in
set_option maxHeartbeats 2000000 in
theorem rMay_any (a b : Pl.Bt) (w : World) :
    Calls Try.prog 18 #[.agg (btA a), .agg (btA b)] w fun e w' => e = .returned (.tuple #[.bool (Pl.mV a b), .int .i64 (Pl.mE a b)]) ∧ Below w.heap.size w w' := by
  have hB := ((Below.refl w.heap.size w).alloc (Nat.le_refl _) (.cells (btA a) 25)).alloc (by simp) (.cells (btA b) 25)
  have bA := (Blk.new w 25 (btA a)).alloc (.cells (btA b) 25)
  have bB := Blk.new (w.alloc (.cells (btA a) 25)) 25 (btA b)
  simp only [World.size_alloc] at bB
  have hra := bA.range
  have hrb := bB.range
  obtain ⟨mv, hmv⟩ : ∃ v, Pl.mV a b = v := ⟨_, rfl⟩
  obtain ⟨me, hme⟩ : ∃ v, Pl.mE a b = v := ⟨_, rfl⟩
  rw [hmv, hme]
  unfold Pl.mV at hmv
  unfold Pl.mE at hme
  obtain ⟨x1, h1⟩ : ∃ x, Pl.vb a = x := ⟨_, rfl⟩
  obtain ⟨x2, h2⟩ : ∃ x, Pl.vb b = x := ⟨_, rfl⟩
  obtain ⟨y, hy⟩ : ∃ y, Pl.may a b = y := ⟨_, rfl⟩
  rw [h1, h2, hy] at hmv
  rw [h1, h2] at hme
  have HV := Lib.hid hmv.symm
  have HE := Lib.hid hme.symm
  clear hmv hme
  have H1 := Lib.hid h1
  have H2 := Lib.hid h2
  have HY := Lib.hid hy
  clear h1 h2 hy
  cases x1
  · go_enter Try.func18, Try.ntmps18
    go_wp2_with (first | refine ldm_bt hra rfl _ rfl rfl ?_ | refine ldm_bt hrb rfl _ rfl rfl ?_)
    refine (rvbatch_b _ _ H1.out _).mono ?_
    rintro e w1 ⟨rfl, hb1⟩
    have hB1 := hB.trans (hb1.mono hB.size)
    go_wp2
    go_ret2
    exact ⟨by rw [HV.out, HE.out]; simp, hB1⟩
  · go_enter Try.func18, Try.ntmps18
    go_wp2_with (first | refine ldm_bt hra rfl _ rfl rfl ?_ | refine ldm_bt hrb rfl _ rfl rfl ?_)
    refine (rvbatch_b _ _ H1.out _).mono ?_
    rintro e w1 ⟨rfl, hb1⟩
    have hB1 := hB.trans (hb1.mono hB.size)
    have bA1 := bA.below hb1 bA.lt
    have bB1 := bB.below hb1 bB.lt
    have hra1 := bA1.range
    have hrb1 := bB1.range
    clear hb1 bA bB hB hra hrb
    go_wp2_with (first | refine ldm_bt hra1 rfl _ rfl rfl ?_ | refine ldm_bt hrb1 rfl _ rfl rfl ?_)
    refine (rvbatch_b _ _ H2.out _).mono ?_
    rintro e w2 ⟨rfl, hb2⟩
    have hB2 := hB1.trans (hb2.mono hB1.size)
    have hra2 := (bA1.below hb2 bA1.lt).range
    have hrb2 := (bB1.below hb2 bB1.lt).range
    clear hb2 bA1 bB1 hB1 hra1 hrb1
    cases x2
    · go_wp2
      go_ret2
      exact ⟨by rw [HV.out, HE.out]; simp, hB2⟩
    · go_wp2_with (first | refine ldm_bt hra2 rfl _ rfl rfl ?_ | refine ldm_bt hrb2 rfl _ rfl rfl ?_)
      refine (rmay_b _ _ _ HY.out _).mono ?_
      rintro e w3 ⟨rfl, hb3⟩
      have hB3 := hB2.trans (hb3.mono hB2.size)
      go_wp2
      go_ret2
      exact ⟨by rw [HV.out, HE.out]; simp, hB3⟩

set_option maxRecDepth 100000 in
set_option maxHeartbeats 4000000 in
theorem law_valid (A : Option Addr) (l : List Pl.Bt) (c : Nat) (a b : Pl.Bt) (w : World) (hI : Bts w A l) :
    Calls Try.prog 3 #[.slice A l.length c, .agg (btA a), .agg (btA b)] w fun e w' => e = .returned (.bool true) ∧ Below w.heap.size w w' := by
  have hB := ((Below.refl w.heap.size w).alloc (Nat.le_refl _) (.cells (btA a) 25)).alloc (by simp) (.cells (btA b) 25)
  have bA := (Blk.new w 25 (btA a)).alloc (.cells (btA b) 25)
  have bB := Blk.new (w.alloc (.cells (btA a) 25)) 25 (btA b)
  simp only [World.size_alloc] at bB
  have hra := bA.range
  have hrb := bB.range
  have HI := Lib.hid hI
  have H1 := Lib.hid (fun (w' : World) hI => valid_any A l c w' hI)
  have H2 := Lib.hid (fun (w' : World) hI => rvalid_any A l c w' hI)
  have HM := Lib.hid (fun w' => May_any a b w')
  have HR := Lib.hid (fun w' => rMay_any a b w')
  have HS := Lib.hid sane_any
  generalize Pl.vs l = V at *
  generalize Pl.mV a b = x at *
  generalize Pl.mE a b = y at *
  generalize l.length = n at *
  clear hI
  by_cases hw : (50 : Int) < (n : Int)
  · have HW := Lib.hid (wide_b A n c 50 true (by simp [hw]))
    go_enter Try.func3, Try.ntmps3
    go_wp2_with fail
    refine (HW.out _).mono ?_
    rintro e w3 ⟨rfl, rfl⟩
    go_wp2_with fail
    refine (HS.out _).mono ?_
    rintro e w4 ⟨rfl, hb⟩
    go_wp2
    go_ret
    exact ⟨rfl, hB.trans (hb.mono hB.size)⟩
  have HW := Lib.hid (wide_b A n c 50 false (by simp [hw]))
  clear hw
  go_enter Try.func3, Try.ntmps3
  go_wp2_with fail
  refine (HW.out _).mono ?_
  rintro e w3 ⟨rfl, rfl⟩
  go_wp2_with (first | refine ldm_bt hra rfl _ rfl rfl ?_ | refine ldm_bt hrb rfl _ rfl rfl ?_)
  refine (HM.out _).mono ?_
  rintro e w1 ⟨rfl, hb1⟩
  have hB1 := hB.trans (hb1.mono hB.size)
  have bA1 := bA.below hb1 bA.lt
  have bB1 := bB.below hb1 bB.lt
  have hra1 := bA1.range
  have hrb1 := bB1.range
  clear hb1 bA bB hB hra hrb
  go_wp2_with (first | refine ldm_bt hra1 rfl _ rfl rfl ?_ | refine ldm_bt hrb1 rfl _ rfl rfl ?_)
  refine (HR.out _).mono ?_
  rintro e w2 ⟨rfl, hb2⟩
  have hB2 := hB1.trans (hb2.mono hB1.size)
  have HI2 := Lib.hid (HI.out.below hB2)
  clear hb2 bA1 bB1 hB1 hra1 hrb1
  go_wp2_with fail
  refine (H1.out _ HI2.out).mono ?_
  rintro e w3 ⟨rfl, hb3⟩
  have hB3 := hB2.trans (hb3.mono hB2.size)
  have HI3 := Lib.hid (HI2.out.below hb3)
  clear hb3 hB2 HI2
  go_wp2_with fail
  refine (H2.out _ HI3.out).mono ?_
  rintro e w4 ⟨rfl, hb4⟩
  have hB4 := hB3.trans (hb4.mono hB3.size)
  clear hb4 hB3 HI3
  go_wp2_with fail
  refine (HS.out _).mono ?_
  rintro e w5 ⟨rfl, hb5⟩
  go_wp2
  go_ret
  exact ⟨rfl, hB4.trans (hb5.mono hB4.size)⟩
end Go.Proofs.Ytlfbfdhdkccaeaa
