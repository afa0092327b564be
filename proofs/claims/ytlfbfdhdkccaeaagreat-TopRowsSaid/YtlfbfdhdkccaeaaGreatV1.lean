/- within, validBatch, may, sum, length, of the program; validBatch, may, apart, hours, of the document; May of both. -/
import Derived.Test.YtlfbfdhdkccaeaaGreatF1
namespace Go.Proofs.YtlfbfdhdkccaeaaGreat
open Go.RowKit Go.Shelf

set_option maxHeartbeats 400000 in
theorem within_b (n a b : Int) (v : Bool) (hv : Pl.inB a n b = v) (w : World) :
    Calls Tryz.prog 56 #[.int .i64 n, .int .i64 a, .int .i64 b] w fun e w' => e = .returned (.bool v) ∧ w' = w := by
  by_cases h1 : a ≤ n
  · have HV : Hid (v = decide (n ≤ b)) := Lib.hid (by rw [← hv]; unfold Pl.inB; rw [decide_eq_true h1]; rfl)
    clear hv
    go_enter Tryz.func56, Tryz.ntmps56
    go_wp2
    go_ret
    exact ⟨by rw [HV.out]; rfl, rfl⟩
  · have HV : Hid (v = false) := Lib.hid (by rw [← hv]; unfold Pl.inB; rw [decide_eq_false h1]; rfl)
    clear hv
    go_enter Tryz.func56, Tryz.ntmps56
    go_wp2
    go_ret
    exact ⟨by rw [HV.out]; rfl, rfl⟩
theorem within_any (n a b : Int) (w : World) :
    Calls Tryz.prog 56 #[.int .i64 n, .int .i64 a, .int .i64 b] w fun e w' => e = .returned (.bool (Pl.inB a n b)) ∧ w' = w := within_b n a b _ rfl w

/-- the hours of stage k + 1 -/
def Pl.hr (t : Pl.Bt) : Nat → Int
  | 0 => t.h0
  | 1 => t.h1
  | 2 => t.h2
  | _ => t.h3
abbrev hoL (t : Pl.Bt) : List Value := [.int .i64 t.h0, .int .i64 t.h1, .int .i64 t.h2, .int .i64 t.h3]
theorem info23 : (Tryz.prog.info? 46).map (·.size) = some 4 := by kernel_rfl
theorem ldm_ho {ops : Array Oper} {rest : List Oper} {o : Oper} {a : Act} {w : World} {Q : Exit → Act → World → Prop} {b off : Nat} {s : Pl.Bt} (hr : w.rangeAt b off (hoL s)) (hw : Region.wanted o (yielded ops a.tmps) = true) (x : Operand) (ho : o.op = .load 46 x)
    (hx : a.eval x = .pointer (some ⟨b, off, none⟩)) (h : wpList Tryz.prog ops Q rest (a.put o.dst (.agg (hoL s).toArray)) w) : wpList Tryz.prog ops Q (o :: rest) a w :=
  wpList_wanted hw fun _ hK => wp_load_mid 46 x ho b off hx (hoL s) _ hr Tryz.underlying46 rfl info23 (hK _ _ h)
theorem bt_ho {w : World} {b off : Nat} {t : Pl.Bt} (h : w.rangeAt b off (btA t).toList) : w.rangeAt b (off + 3) (hoL t) := fun j v hv => by
  have := h (3 + j) v (by
    match j, hv with
    | 0, hv => exact hv
    | 1, hv => exact hv
    | 2, hv => exact hv
    | 3, hv => exact hv)
  rwa [← Nat.add_assoc] at this

set_option maxRecDepth 100000 in
set_option maxHeartbeats 4000000 in
theorem vbatch_b (t : Pl.Bt) (v : Bool) (hv : Pl.vb t = v) (w : World) :
    Calls Tryz.prog 38 #[.agg (btA t)] w fun e w' => e = .returned (.bool v) ∧ Below w.heap.size w w' := by
  have hB := (Below.refl w.heap.size w).alloc (Nat.le_refl _) (.cells (btA t) 48)
  have bT := Blk.new w 48 (btA t)
  have hho := bt_ho bT.range
  rw [Nat.zero_add] at hho
  have q0 := bT.cell 0
  have q1 := bT.cell 1
  have q2 := bT.cell 2
  unfold Pl.vb Pl.vh at hv
  obtain ⟨x0, h0⟩ : ∃ x, Pl.inB 0 t.h0 100 = x := ⟨_, rfl⟩
  obtain ⟨x1, h1⟩ : ∃ x, Pl.inB 0 t.h1 100 = x := ⟨_, rfl⟩
  obtain ⟨x2, h2⟩ : ∃ x, Pl.inB 0 t.h2 100 = x := ⟨_, rfl⟩
  obtain ⟨x3, h3⟩ : ∃ x, Pl.inB 0 t.h3 100 = x := ⟨_, rfl⟩
  obtain ⟨y0, g0⟩ : ∃ x, Pl.inB 1 t.num 1000000000 = x := ⟨_, rfl⟩
  obtain ⟨y1, g1⟩ : ∃ x, Pl.inB 0 t.dark 9 = x := ⟨_, rfl⟩
  obtain ⟨y2, g2⟩ : ∃ x, Pl.inB 0 t.grain 9 = x := ⟨_, rfl⟩
  rw [h0, h1, h2, h3, g0, g1, g2] at hv
  have H0 := Lib.hid h0
  have H1 := Lib.hid h1
  have H2 := Lib.hid h2
  have H3 := Lib.hid h3
  have G0 := Lib.hid g0
  have G1 := Lib.hid g1
  have G2 := Lib.hid g2
  have HV := Lib.hid hv.symm
  clear hv h0 h1 h2 h3 g0 g1 g2 bT
  go_enter Tryz.func38, Tryz.ntmps38
  go_wp2_with (refine ldm_ho hho rfl _ rfl rfl ?_)
  clear hho
  have i0 : ∀ w, (Instr.index 46 (.agg (hoL t).toArray) (.int .i64 0)).run Tryz.prog w = .ok (.int .i64 t.h0) w := fun _ => by kernel_rfl
  have i1 : ∀ w, (Instr.index 46 (.agg (hoL t).toArray) (.int .i64 1)).run Tryz.prog w = .ok (.int .i64 t.h1) w := fun _ => by kernel_rfl
  have i2 : ∀ w, (Instr.index 46 (.agg (hoL t).toArray) (.int .i64 2)).run Tryz.prog w = .ok (.int .i64 t.h2) w := fun _ => by kernel_rfl
  have i3 : ∀ w, (Instr.index 46 (.agg (hoL t).toArray) (.int .i64 3)).run Tryz.prog w = .ok (.int .i64 t.h3) w := fun _ => by kernel_rfl
  go_loop [4, 7] (fun _ i => ∃ k : Nat, k ≤ 4 ∧ i = .int .i64 k ∧ (1 ≤ k → x0 = true) ∧ (2 ≤ k → x1 = true) ∧ (3 ≤ k → x2 = true) ∧ (4 ≤ k → x3 = true)) (fun _ i => 4 - (intOf i).toNat)
  case atStart => exact ⟨0, by omega, rfl, fun h => absurd h (by omega), fun h => absurd h (by omega), fun h => absurd h (by omega), fun h => absurd h (by omega)⟩
  case round =>
    obtain ⟨k, hk, rfl, a0, a1, a2, a3⟩ := hrel
    have A0 := Lib.hid a0
    have A1 := Lib.hid a1
    have A2 := Lib.hid a2
    have A3 := Lib.hid a3
    clear a0 a1 a2 a3
    have hk5 : k = 0 ∨ k = 1 ∨ k = 2 ∨ k = 3 ∨ k = 4 := by omega
    rcases hk5 with rfl | rfl | rfl | rfl | rfl
    · cases x0
      · go_wp2_with (go_at_call 56; refine (within_b _ _ _ _ H0.out _).mono ?_; rintro e w1 ⟨rfl, rfl⟩)
        go_ret
        exact ⟨by rw [HV.out]; rfl, hB⟩
      · go_wp2_with (go_at_call 56; refine (within_b _ _ _ _ H0.out _).mono ?_; rintro e w1 ⟨rfl, rfl⟩)
        go_round
        case rel => exact ⟨1, by omega, by simp, by simp, fun h => absurd h (by omega), fun h => absurd h (by omega), fun h => absurd h (by omega)⟩
        case measure => simp [intOf]
    · obtain rfl := A0.out (by omega)
      cases x1
      · go_wp2_with (go_at_call 56; refine (within_b _ _ _ _ H1.out _).mono ?_; rintro e w1 ⟨rfl, rfl⟩)
        go_ret
        exact ⟨by rw [HV.out]; rfl, hB⟩
      · go_wp2_with (go_at_call 56; refine (within_b _ _ _ _ H1.out _).mono ?_; rintro e w1 ⟨rfl, rfl⟩)
        go_round
        case rel => exact ⟨2, by omega, by simp, by simp, by simp, fun h => absurd h (by omega), fun h => absurd h (by omega)⟩
        case measure => simp [intOf]
    · obtain rfl := A0.out (by omega)
      obtain rfl := A1.out (by omega)
      cases x2
      · go_wp2_with (go_at_call 56; refine (within_b _ _ _ _ H2.out _).mono ?_; rintro e w1 ⟨rfl, rfl⟩)
        go_ret
        exact ⟨by rw [HV.out]; rfl, hB⟩
      · go_wp2_with (go_at_call 56; refine (within_b _ _ _ _ H2.out _).mono ?_; rintro e w1 ⟨rfl, rfl⟩)
        go_round
        case rel => exact ⟨3, by omega, by simp, by simp, by simp, by simp, fun h => absurd h (by omega)⟩
        case measure => simp [intOf]
    · obtain rfl := A0.out (by omega)
      obtain rfl := A1.out (by omega)
      obtain rfl := A2.out (by omega)
      cases x3
      · go_wp2_with (go_at_call 56; refine (within_b _ _ _ _ H3.out _).mono ?_; rintro e w1 ⟨rfl, rfl⟩)
        go_ret
        exact ⟨by rw [HV.out]; rfl, hB⟩
      · go_wp2_with (go_at_call 56; refine (within_b _ _ _ _ H3.out _).mono ?_; rintro e w1 ⟨rfl, rfl⟩)
        go_round
        case rel => exact ⟨4, by omega, by simp, by simp, by simp, by simp, by simp⟩
        case measure => simp [intOf]
    · obtain rfl := A0.out (by omega)
      obtain rfl := A1.out (by omega)
      obtain rfl := A2.out (by omega)
      obtain rfl := A3.out (by omega)
      clear A0 A1 A2 A3 H0 H1 H2 H3
      cases y0
      · go_wp2_with (go_at_call 56; refine (within_any _ _ _ _).mono ?_; rintro e w1 ⟨rfl, rfl⟩; first | rw [G0.out] | rw [G1.out] | rw [G2.out])
        go_ret
        exact ⟨by rw [HV.out]; rfl, hB⟩
      cases y1
      · go_wp2_with (go_at_call 56; refine (within_any _ _ _ _).mono ?_; rintro e w1 ⟨rfl, rfl⟩; first | rw [G0.out] | rw [G1.out] | rw [G2.out])
        go_ret
        exact ⟨by rw [HV.out]; rfl, hB⟩
      · cases y2 <;>
        (go_wp2_with (go_at_call 56; refine (within_any _ _ _ _).mono ?_; rintro e w1 ⟨rfl, rfl⟩; first | rw [G0.out] | rw [G1.out] | rw [G2.out])
         go_ret
         exact ⟨by rw [HV.out]; rfl, hB⟩)

set_option maxRecDepth 100000 in
set_option maxHeartbeats 1000000 in
theorem may_b (a b : Pl.Bt) (v : Bool) (hv : Pl.may a b = v) (w : World) :
    Calls Tryz.prog 68 #[.agg (btA a), .agg (btA b)] w fun e w' => e = .returned (.bool v) ∧ Below w.heap.size w w' := by
  have hB := ((Below.refl w.heap.size w).alloc (Nat.le_refl _) (.cells (btA a) 48)).alloc (by simp) (.cells (btA b) 48)
  have bA := (Blk.new w 48 (btA a)).alloc (.cells (btA b) 48)
  have bB := Blk.new (w.alloc (.cells (btA a) 48)) 48 (btA b)
  simp only [World.size_alloc] at bB
  have q1 := bA.cell 1
  have q2 := bA.cell 2
  have r1 := bB.cell 1
  have r2 := bB.cell 2
  unfold Pl.may at hv
  have HV := Lib.hid hv.symm
  clear hv bA bB
  by_cases h1 : a.dark ≤ b.dark
  · by_cases h2 : a.grain ≤ b.grain
    · have HF : Hid (v = true) := Lib.hid (by rw [HV.out]; simp [h1, h2])
      clear HV
      go_enter Tryz.func68, Tryz.ntmps68
      go_wp2
      go_ret
      exact ⟨by rw [HF.out]; rfl, hB⟩
    · have HF : Hid (v = false) := Lib.hid (by rw [HV.out]; simp [h2])
      clear HV
      go_enter Tryz.func68, Tryz.ntmps68
      go_wp2
      go_ret
      exact ⟨by rw [HF.out]; rfl, hB⟩
  · have HF : Hid (v = false) := Lib.hid (by rw [HV.out]; simp [h1])
    clear HV
    go_enter Tryz.func68, Tryz.ntmps68
    go_wp2
    go_ret
    exact ⟨by rw [HF.out]; rfl, hB⟩
set_option maxRecDepth 100000 in
set_option maxHeartbeats 1000000 in
theorem rmay_b (a b : Pl.Bt) (v : Bool) (hv : Pl.may a b = v) (w : World) :
    Calls Tryz.prog 55 #[.agg (btA a), .agg (btA b)] w fun e w' => e = .returned (.bool v) ∧ Below w.heap.size w w' := by
  have hB := ((Below.refl w.heap.size w).alloc (Nat.le_refl _) (.cells (btA a) 48)).alloc (by simp) (.cells (btA b) 48)
  have bA := (Blk.new w 48 (btA a)).alloc (.cells (btA b) 48)
  have bB := Blk.new (w.alloc (.cells (btA a) 48)) 48 (btA b)
  simp only [World.size_alloc] at bB
  have q1 := bA.cell 1
  have q2 := bA.cell 2
  have r1 := bB.cell 1
  have r2 := bB.cell 2
  unfold Pl.may at hv
  have HV := Lib.hid hv.symm
  clear hv bA bB
  by_cases h1 : a.dark ≤ b.dark
  · by_cases h2 : a.grain ≤ b.grain
    · have HF : Hid (v = true) := Lib.hid (by rw [HV.out]; simp [h1, h2])
      clear HV
      go_enter Tryz.func55, Tryz.ntmps55
      go_wp2
      go_ret
      exact ⟨by rw [HF.out]; rfl, hB⟩
    · have HF : Hid (v = false) := Lib.hid (by rw [HV.out]; simp [h2])
      clear HV
      go_enter Tryz.func55, Tryz.ntmps55
      go_wp2
      go_ret
      exact ⟨by rw [HF.out]; rfl, hB⟩
  · have HF : Hid (v = false) := Lib.hid (by rw [HV.out]; simp [h1])
    clear HV
    go_enter Tryz.func55, Tryz.ntmps55
    go_wp2
    go_ret
    exact ⟨by rw [HF.out]; rfl, hB⟩

set_option maxRecDepth 100000 in
set_option maxHeartbeats 1000000 in
theorem rapart_b (a b : Pl.Bt) (v : Bool) (hv : Pl.apt a b = v) (w : World) :
    Calls Tryz.prog 22 #[.agg (btA a), .agg (btA b)] w fun e w' => e = .returned (.bool v) ∧ Below w.heap.size w w' := by
  have hB := ((Below.refl w.heap.size w).alloc (Nat.le_refl _) (.cells (btA a) 48)).alloc (by simp) (.cells (btA b) 48)
  have bA := (Blk.new w 48 (btA a)).alloc (.cells (btA b) 48)
  have bB := Blk.new (w.alloc (.cells (btA a) 48)) 48 (btA b)
  simp only [World.size_alloc] at bB
  have hra := bA.range
  have hrb := bB.range
  unfold Pl.apt at hv
  obtain ⟨x1, h1⟩ : ∃ x, Pl.may a b = x := ⟨_, rfl⟩
  obtain ⟨x2, h2⟩ : ∃ x, Pl.may b a = x := ⟨_, rfl⟩
  rw [h1, h2] at hv
  have HV := Lib.hid hv.symm
  have H1 := Lib.hid h1
  have H2 := Lib.hid h2
  clear hv h1 h2
  cases x1
  · go_enter Tryz.func22, Tryz.ntmps22
    go_wp2_with (first | refine ldm_bt hra rfl _ rfl rfl ?_ | refine ldm_bt hrb rfl _ rfl rfl ?_)
    refine (rmay_b _ _ _ H1.out _).mono ?_
    rintro e w1 ⟨rfl, hb1⟩
    have hB1 := hB.trans (hb1.mono hB.size)
    have hra1 := (bA.below hb1 bA.lt).range
    have hrb1 := (bB.below hb1 bB.lt).range
    clear hb1 bA bB hB hra hrb
    go_wp2_with (first | refine ldm_bt hra1 rfl _ rfl rfl ?_ | refine ldm_bt hrb1 rfl _ rfl rfl ?_)
    refine (rmay_b _ _ _ H2.out _).mono ?_
    rintro e w2 ⟨rfl, hb2⟩
    go_wp2
    go_ret
    exact ⟨by rw [HV.out]; rfl, hB1.trans (hb2.mono hB1.size)⟩
  · go_enter Tryz.func22, Tryz.ntmps22
    go_wp2_with (first | refine ldm_bt hra rfl _ rfl rfl ?_ | refine ldm_bt hrb rfl _ rfl rfl ?_)
    refine (rmay_b _ _ _ H1.out _).mono ?_
    rintro e w1 ⟨rfl, hb1⟩
    have hB1 := hB.trans (hb1.mono hB.size)
    go_wp2
    go_ret
    exact ⟨by rw [HV.out]; rfl, hB1⟩
end Go.Proofs.YtlfbfdhdkccaeaaGreat

