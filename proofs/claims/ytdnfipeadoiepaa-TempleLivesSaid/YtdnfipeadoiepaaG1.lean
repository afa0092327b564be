/- Hinges: validity, one opening, a tightening, errors; of the program and of the document. -/
import Derived.Test.YtdnfipeadoiepaaV2
import Derived.Test.YtdnfipeadoiepaaP3
namespace Go.Proofs.Ytdnfipeadoiepaa
open Go.RowKit Go.Shelf

/-- the parts of a hinge's validity -/
theorem vhg_parts (h : Pl.Hg) (y1 y2 y3 x1 x2 x3 : Bool) (h1 : decide (h.b = 3) = y1) (h2 : decide (h.b = 5) = y2) (h3 : decide (h.b = 7) = y3)
    (k1 : Pl.inB 1 h.start 10000 = x1) (k2 : Pl.inB 0 h.wear 1000 = x2) (k3 : Pl.inB 1 h.tight 10000 = x3) : Pl.vhg h = ((y1 || y2 || y3) && x1 && x2 && x3) := by
  subst h1 h2 h3 k1 k2 k3; rfl
theorem b_three (h : Pl.Hg) : (decide (h.b = 3) = true) ∨ (decide (h.b = 3) = false ∧ decide (h.b = 5) = true) ∨ (decide (h.b = 3) = false ∧ decide (h.b = 5) = false ∧ decide (h.b = 7) = true) ∨ (decide (h.b = 3) = false ∧ decide (h.b = 5) = false ∧ decide (h.b = 7) = false) := by
  by_cases h1 : h.b = 3 <;> by_cases h2 : h.b = 5 <;> by_cases h3 : h.b = 7 <;> simp [h1, h2, h3] <;> omega

set_option maxRecDepth 100000 in
set_option maxHeartbeats 2000000 in
theorem vhinge_b (h : Pl.Hg) (v : Bool) (hv : Pl.vhg h = v) (w : World) :
    Calls Try.prog 41 #[.agg (hgA h)] w fun e w' => e = .returned (.bool v) ∧ Below w.heap.size w w' := by
  have hB := (Below.refl w.heap.size w).alloc (Nat.le_refl _) (.cells (hgA h) 55)
  have bT := Blk.new w 55 (hgA h)
  have q0 := bT.cell 0
  have q1 := bT.cell 1
  have q2 := bT.cell 2
  have q3 := bT.cell 3
  obtain ⟨x1, h1⟩ : ∃ x, Pl.inB 1 h.start 10000 = x := ⟨_, rfl⟩
  obtain ⟨x2, h2⟩ : ∃ x, Pl.inB 0 h.wear 1000 = x := ⟨_, rfl⟩
  obtain ⟨x3, h3⟩ : ∃ x, Pl.inB 1 h.tight 10000 = x := ⟨_, rfl⟩
  have H1 := Lib.hid h1
  have H2 := Lib.hid h2
  have H3 := Lib.hid h3
  rcases b_three h with e1 | ⟨e1, e2⟩ | ⟨e1, e2, e3⟩ | ⟨e1, e2, e3⟩
  · have HV : Hid (v = (true && x1 && x2 && x3)) := Lib.hid (by rw [← hv, vhg_parts h _ _ _ x1 x2 x3 rfl rfl rfl h1 h2 h3, e1]; simp)
    clear hv h1 h2 h3 bT
    have E3 : (h.b == 3) = true := e1
    clear e1
    have hc : x1 = false ∨ (x1 = true ∧ x2 = false) ∨ (x1 = true ∧ x2 = true) := by cases x1 <;> cases x2 <;> simp
    rcases hc with rfl | ⟨rfl, rfl⟩ | ⟨rfl, rfl⟩ <;>
    (go_enter Try.func41, Try.ntmps41
     go_wp2_with (go_at_call 72; refine (within_any _ _ _ _).mono ?_; rintro e w1 ⟨rfl, rfl⟩; first | rw [H1.out] | rw [H2.out] | rw [H3.out])
     go_ret
     exact ⟨by rw [HV.out]; rfl, hB⟩)
  · have HV : Hid (v = (true && x1 && x2 && x3)) := Lib.hid (by rw [← hv, vhg_parts h _ _ _ x1 x2 x3 rfl rfl rfl h1 h2 h3, e1, e2]; simp)
    clear hv h1 h2 h3 bT
    have E3 : (h.b == 3) = false := e1
    have E5 : (h.b == 5) = true := e2
    clear e1 e2
    have hc : x1 = false ∨ (x1 = true ∧ x2 = false) ∨ (x1 = true ∧ x2 = true) := by cases x1 <;> cases x2 <;> simp
    rcases hc with rfl | ⟨rfl, rfl⟩ | ⟨rfl, rfl⟩ <;>
    (go_enter Try.func41, Try.ntmps41
     go_wp2_with (go_at_call 72; refine (within_any _ _ _ _).mono ?_; rintro e w1 ⟨rfl, rfl⟩; first | rw [H1.out] | rw [H2.out] | rw [H3.out])
     go_ret
     exact ⟨by rw [HV.out]; rfl, hB⟩)
  · have HV : Hid (v = (true && x1 && x2 && x3)) := Lib.hid (by rw [← hv, vhg_parts h _ _ _ x1 x2 x3 rfl rfl rfl h1 h2 h3, e1, e2, e3]; simp)
    clear hv h1 h2 h3 bT
    have E3 : (h.b == 3) = false := e1
    have E5 : (h.b == 5) = false := e2
    have E7 : (h.b == 7) = true := e3
    clear e1 e2 e3
    have hc : x1 = false ∨ (x1 = true ∧ x2 = false) ∨ (x1 = true ∧ x2 = true) := by cases x1 <;> cases x2 <;> simp
    rcases hc with rfl | ⟨rfl, rfl⟩ | ⟨rfl, rfl⟩ <;>
    (go_enter Try.func41, Try.ntmps41
     go_wp2_with (go_at_call 72; refine (within_any _ _ _ _).mono ?_; rintro e w1 ⟨rfl, rfl⟩; first | rw [H1.out] | rw [H2.out] | rw [H3.out])
     go_ret
     exact ⟨by rw [HV.out]; rfl, hB⟩)
  · have HV : Hid (v = (false && x1 && x2 && x3)) := Lib.hid (by rw [← hv, vhg_parts h _ _ _ x1 x2 x3 rfl rfl rfl h1 h2 h3, e1, e2, e3]; simp)
    clear hv h1 h2 h3 bT
    have E3 : (h.b == 3) = false := e1
    have E5 : (h.b == 5) = false := e2
    have E7 : (h.b == 7) = false := e3
    clear e1 e2 e3
    go_enter Try.func41, Try.ntmps41
    go_wp2
    go_ret
    exact ⟨by rw [HV.out]; rfl, hB⟩

set_option maxRecDepth 100000 in
set_option maxHeartbeats 4000000 in
theorem rvhinge_b (h : Pl.Hg) (v : Bool) (hv : Pl.vhg h = v) (w : World) :
    Calls Try.prog 42 #[.agg (hgA h)] w fun e w' => e = .returned (.bool v) ∧ Below w.heap.size w w' := by
  have hB := (Below.refl w.heap.size w).alloc (Nat.le_refl _) (.cells (hgA h) 55)
  have bT := Blk.new w 55 (hgA h)
  have q0 := bT.cell 0
  have q1 := bT.cell 1
  have q2 := bT.cell 2
  have q3 := bT.cell 3
  clear bT
  rcases b_three h with e1 | ⟨e1, e2⟩ | ⟨e1, e2, e3⟩ | ⟨e1, e2, e3⟩
  · have HV : Hid (v = (true && (decide (1 ≤ h.start) && decide (h.start ≤ 10000)) && (decide (0 ≤ h.wear) && decide (h.wear ≤ 1000)) && (decide (1 ≤ h.tight) && decide (h.tight ≤ 10000)))) := Lib.hid (by rw [← hv, vhg_parts h _ _ _ _ _ _ rfl rfl rfl rfl rfl rfl, e1]; simp [Pl.inB])
    clear hv
    have E3 : (h.b == 3) = true := e1
    clear e1
    by_cases a0 : 1 ≤ h.start
    rotate_left
    · have HF : Hid (v = false) := Lib.hid (by rw [HV.out]; simp [a0])
      clear HV
      go_enter Try.func42, Try.ntmps42
      go_wp2
      go_ret
      exact ⟨by rw [HF.out]; rfl, hB⟩
    by_cases a1 : h.start ≤ 10000
    rotate_left
    · have HF : Hid (v = false) := Lib.hid (by rw [HV.out]; simp [a0, a1])
      clear HV
      go_enter Try.func42, Try.ntmps42
      go_wp2
      go_ret
      exact ⟨by rw [HF.out]; rfl, hB⟩
    by_cases a2 : 0 ≤ h.wear
    rotate_left
    · have HF : Hid (v = false) := Lib.hid (by rw [HV.out]; simp [a0, a1, a2])
      clear HV
      go_enter Try.func42, Try.ntmps42
      go_wp2
      go_ret
      exact ⟨by rw [HF.out]; rfl, hB⟩
    by_cases a3 : h.wear ≤ 1000
    rotate_left
    · have HF : Hid (v = false) := Lib.hid (by rw [HV.out]; simp [a0, a1, a2, a3])
      clear HV
      go_enter Try.func42, Try.ntmps42
      go_wp2
      go_ret
      exact ⟨by rw [HF.out]; rfl, hB⟩
    by_cases a4 : 1 ≤ h.tight
    rotate_left
    · have HF : Hid (v = false) := Lib.hid (by rw [HV.out]; simp [a0, a1, a2, a3, a4])
      clear HV
      go_enter Try.func42, Try.ntmps42
      go_wp2
      go_ret
      exact ⟨by rw [HF.out]; rfl, hB⟩
    by_cases a5 : h.tight ≤ 10000
    rotate_left
    · have HF : Hid (v = false) := Lib.hid (by rw [HV.out]; simp [a0, a1, a2, a3, a4, a5])
      clear HV
      go_enter Try.func42, Try.ntmps42
      go_wp2
      go_ret
      exact ⟨by rw [HF.out]; rfl, hB⟩
    have HF : Hid (v = true) := Lib.hid (by rw [HV.out]; simp [a0, a1, a2, a3, a4, a5])
    clear HV
    go_enter Try.func42, Try.ntmps42
    go_wp2
    go_ret
    exact ⟨by rw [HF.out]; rfl, hB⟩
  · have HV : Hid (v = (true && (decide (1 ≤ h.start) && decide (h.start ≤ 10000)) && (decide (0 ≤ h.wear) && decide (h.wear ≤ 1000)) && (decide (1 ≤ h.tight) && decide (h.tight ≤ 10000)))) := Lib.hid (by rw [← hv, vhg_parts h _ _ _ _ _ _ rfl rfl rfl rfl rfl rfl, e1, e2]; simp [Pl.inB])
    clear hv
    have E3 : (h.b == 3) = false := e1
    have E5 : (h.b == 5) = true := e2
    clear e1 e2
    by_cases a0 : 1 ≤ h.start
    rotate_left
    · have HF : Hid (v = false) := Lib.hid (by rw [HV.out]; simp [a0])
      clear HV
      go_enter Try.func42, Try.ntmps42
      go_wp2
      go_ret
      exact ⟨by rw [HF.out]; rfl, hB⟩
    by_cases a1 : h.start ≤ 10000
    rotate_left
    · have HF : Hid (v = false) := Lib.hid (by rw [HV.out]; simp [a0, a1])
      clear HV
      go_enter Try.func42, Try.ntmps42
      go_wp2
      go_ret
      exact ⟨by rw [HF.out]; rfl, hB⟩
    by_cases a2 : 0 ≤ h.wear
    rotate_left
    · have HF : Hid (v = false) := Lib.hid (by rw [HV.out]; simp [a0, a1, a2])
      clear HV
      go_enter Try.func42, Try.ntmps42
      go_wp2
      go_ret
      exact ⟨by rw [HF.out]; rfl, hB⟩
    by_cases a3 : h.wear ≤ 1000
    rotate_left
    · have HF : Hid (v = false) := Lib.hid (by rw [HV.out]; simp [a0, a1, a2, a3])
      clear HV
      go_enter Try.func42, Try.ntmps42
      go_wp2
      go_ret
      exact ⟨by rw [HF.out]; rfl, hB⟩
    by_cases a4 : 1 ≤ h.tight
    rotate_left
    · have HF : Hid (v = false) := Lib.hid (by rw [HV.out]; simp [a0, a1, a2, a3, a4])
      clear HV
      go_enter Try.func42, Try.ntmps42
      go_wp2
      go_ret
      exact ⟨by rw [HF.out]; rfl, hB⟩
    by_cases a5 : h.tight ≤ 10000
    rotate_left
    · have HF : Hid (v = false) := Lib.hid (by rw [HV.out]; simp [a0, a1, a2, a3, a4, a5])
      clear HV
      go_enter Try.func42, Try.ntmps42
      go_wp2
      go_ret
      exact ⟨by rw [HF.out]; rfl, hB⟩
    have HF : Hid (v = true) := Lib.hid (by rw [HV.out]; simp [a0, a1, a2, a3, a4, a5])
    clear HV
    go_enter Try.func42, Try.ntmps42
    go_wp2
    go_ret
    exact ⟨by rw [HF.out]; rfl, hB⟩
  · have HV : Hid (v = (true && (decide (1 ≤ h.start) && decide (h.start ≤ 10000)) && (decide (0 ≤ h.wear) && decide (h.wear ≤ 1000)) && (decide (1 ≤ h.tight) && decide (h.tight ≤ 10000)))) := Lib.hid (by rw [← hv, vhg_parts h _ _ _ _ _ _ rfl rfl rfl rfl rfl rfl, e1, e2, e3]; simp [Pl.inB])
    clear hv
    have E3 : (h.b == 3) = false := e1
    have E5 : (h.b == 5) = false := e2
    have E7 : (h.b == 7) = true := e3
    clear e1 e2 e3
    by_cases a0 : 1 ≤ h.start
    rotate_left
    · have HF : Hid (v = false) := Lib.hid (by rw [HV.out]; simp [a0])
      clear HV
      go_enter Try.func42, Try.ntmps42
      go_wp2
      go_ret
      exact ⟨by rw [HF.out]; rfl, hB⟩
    by_cases a1 : h.start ≤ 10000
    rotate_left
    · have HF : Hid (v = false) := Lib.hid (by rw [HV.out]; simp [a0, a1])
      clear HV
      go_enter Try.func42, Try.ntmps42
      go_wp2
      go_ret
      exact ⟨by rw [HF.out]; rfl, hB⟩
    by_cases a2 : 0 ≤ h.wear
    rotate_left
    · have HF : Hid (v = false) := Lib.hid (by rw [HV.out]; simp [a0, a1, a2])
      clear HV
      go_enter Try.func42, Try.ntmps42
      go_wp2
      go_ret
      exact ⟨by rw [HF.out]; rfl, hB⟩
    by_cases a3 : h.wear ≤ 1000
    rotate_left
    · have HF : Hid (v = false) := Lib.hid (by rw [HV.out]; simp [a0, a1, a2, a3])
      clear HV
      go_enter Try.func42, Try.ntmps42
      go_wp2
      go_ret
      exact ⟨by rw [HF.out]; rfl, hB⟩
    by_cases a4 : 1 ≤ h.tight
    rotate_left
    · have HF : Hid (v = false) := Lib.hid (by rw [HV.out]; simp [a0, a1, a2, a3, a4])
      clear HV
      go_enter Try.func42, Try.ntmps42
      go_wp2
      go_ret
      exact ⟨by rw [HF.out]; rfl, hB⟩
    by_cases a5 : h.tight ≤ 10000
    rotate_left
    · have HF : Hid (v = false) := Lib.hid (by rw [HV.out]; simp [a0, a1, a2, a3, a4, a5])
      clear HV
      go_enter Try.func42, Try.ntmps42
      go_wp2
      go_ret
      exact ⟨by rw [HF.out]; rfl, hB⟩
    have HF : Hid (v = true) := Lib.hid (by rw [HV.out]; simp [a0, a1, a2, a3, a4, a5])
    clear HV
    go_enter Try.func42, Try.ntmps42
    go_wp2
    go_ret
    exact ⟨by rw [HF.out]; rfl, hB⟩
  · have HV : Hid (v = (false && (decide (1 ≤ h.start) && decide (h.start ≤ 10000)) && (decide (0 ≤ h.wear) && decide (h.wear ≤ 1000)) && (decide (1 ≤ h.tight) && decide (h.tight ≤ 10000)))) := Lib.hid (by rw [← hv, vhg_parts h _ _ _ _ _ _ rfl rfl rfl rfl rfl rfl, e1, e2, e3]; simp [Pl.inB])
    clear hv
    have E3 : (h.b == 3) = false := e1
    have E5 : (h.b == 5) = false := e2
    have E7 : (h.b == 7) = false := e3
    clear e1 e2 e3
    go_enter Try.func42, Try.ntmps42
    go_wp2
    go_ret
    exact ⟨by rw [HV.out]; rfl, hB⟩

set_option maxRecDepth 100000 in
set_option maxHeartbeats 1000000 in
theorem opened_b (h : Pl.Hg) (hv : Pl.Vh h) (f : Int) (hf : 0 ≤ f ∧ f ≤ 10000) (v : Int) (hr : Pl.op1 h f = v) (w : World) :
    Calls Try.prog 68 #[.agg (hgA h), .int .i64 f] w fun e w' => e = .returned (.int .i64 v) ∧ Below w.heap.size w w' := by
  have hB := (Below.refl w.heap.size w).alloc (Nat.le_refl _) (.cells (hgA h) 55)
  have bT := Blk.new w 55 (hgA h)
  have q0 := bT.cell 0
  have q2 := bT.cell 2
  have m1 := Pl.mul_wear hv hf.1
  have hb := hv.b
  have hbd := Pl.op1_bounds hv hf.1
  have hdv := Pl.op1_div hv hf.1
  unfold Pl.op1 at hbd hr
  rw [Int.tdiv_eq_ediv_of_nonneg (by omega)] at hbd
  have k1 : IntKind.i64.wrap (1000 * h.b) = 1000 * h.b := IntWalk.i64_in _ (by omega)
  have k2 : IntKind.i64.wrap (f * h.wear) = f * h.wear := IntWalk.i64_in _ (by omega)
  have k3 : IntKind.i64.wrap (f * h.wear + 1000 * h.b) = f * h.wear + 1000 * h.b := IntWalk.i64_in _ (by omega)
  have k4 : IntKind.i64.wrap (f * h.wear + 1000 * h.b - 1) = f * h.wear + 1000 * h.b - 1 := IntWalk.i64_in _ (by omega)
  have k5 : IntKind.i64.wrap ((f * h.wear + 1000 * h.b - 1).tdiv (1000 * h.b)) = (f * h.wear + 1000 * h.b - 1).tdiv (1000 * h.b) := IntWalk.i64_in _ (by
    rw [Int.tdiv_eq_ediv_of_nonneg (by omega)]; omega)
  have k6 : IntKind.i64.wrap (f - (f * h.wear + 1000 * h.b - 1).tdiv (1000 * h.b)) = f - (f * h.wear + 1000 * h.b - 1).tdiv (1000 * h.b) := IntWalk.i64_in _ (by
    rw [Int.tdiv_eq_ediv_of_nonneg (by omega)]; omega)
  have hz : ¬ 1000 * h.b = 0 := by omega
  have hz2 : ¬ h.b = 0 := by omega
  have HR := Lib.hid hr
  clear bT m1 hb hbd hdv hf hv hr
  go_enter Try.func68, Try.ntmps68
  go_wp2
  go_ret
  exact ⟨by rw [← HR.out]; rfl, hB⟩

set_option maxRecDepth 100000 in
set_option maxHeartbeats 1000000 in
theorem ropened_b (h : Pl.Hg) (hv : Pl.Vh h) (f : Int) (hf : 0 ≤ f ∧ f ≤ 10000) (v : Int) (hr : Pl.op1 h f = v) (w : World) :
    Calls Try.prog 70 #[.agg (hgA h), .int .i64 f] w fun e w' => e = .returned (.int .i64 v) ∧ Below w.heap.size w w' := by
  have hB := (Below.refl w.heap.size w).alloc (Nat.le_refl _) (.cells (hgA h) 55)
  have bT := Blk.new w 55 (hgA h)
  have q0 := bT.cell 0
  have q2 := bT.cell 2
  have m1 := Pl.mul_wear hv hf.1
  have hb := hv.b
  have hbd := Pl.op1_bounds hv hf.1
  have hdv := Pl.op1_div hv hf.1
  unfold Pl.op1 at hbd hr
  rw [Int.tdiv_eq_ediv_of_nonneg (by omega)] at hbd
  have k1 : IntKind.i64.wrap (1000 * h.b) = 1000 * h.b := IntWalk.i64_in _ (by omega)
  have k2 : IntKind.i64.wrap (f * h.wear) = f * h.wear := IntWalk.i64_in _ (by omega)
  have k3 : IntKind.i64.wrap (f * h.wear + 1000 * h.b) = f * h.wear + 1000 * h.b := IntWalk.i64_in _ (by omega)
  have k4 : IntKind.i64.wrap (f * h.wear + 1000 * h.b - 1) = f * h.wear + 1000 * h.b - 1 := IntWalk.i64_in _ (by omega)
  have k5 : IntKind.i64.wrap ((f * h.wear + 1000 * h.b - 1).tdiv (1000 * h.b)) = (f * h.wear + 1000 * h.b - 1).tdiv (1000 * h.b) := IntWalk.i64_in _ (by
    rw [Int.tdiv_eq_ediv_of_nonneg (by omega)]; omega)
  have k6 : IntKind.i64.wrap (f - (f * h.wear + 1000 * h.b - 1).tdiv (1000 * h.b)) = f - (f * h.wear + 1000 * h.b - 1).tdiv (1000 * h.b) := IntWalk.i64_in _ (by
    rw [Int.tdiv_eq_ediv_of_nonneg (by omega)]; omega)
  have hz : ¬ 1000 * h.b = 0 := by omega
  have hz2 : ¬ h.b = 0 := by omega
  have HR := Lib.hid hr
  clear bT m1 hb hbd hdv hf hv hr
  go_enter Try.func70, Try.ntmps70
  go_wp2
  go_ret
  exact ⟨by rw [← HR.out]; rfl, hB⟩

set_option maxRecDepth 100000 in
set_option maxHeartbeats 1000000 in
theorem tightened_b (h : Pl.Hg) (hv : Pl.Vh h) (f : Int) (hf : 0 ≤ f ∧ f ≤ 10000) (v : Int) (hr : Pl.tig h f = v) (w : World) :
    Calls Try.prog 71 #[.agg (hgA h), .int .i64 f] w fun e w' => e = .returned (.int .i64 v) ∧ Below w.heap.size w w' := by
  have hB := (Below.refl w.heap.size w).alloc (Nat.le_refl _) (.cells (hgA h) 55)
  have bT := Blk.new w 55 (hgA h)
  have q3 := bT.cell 3
  have q1 := bT.cell 1
  have h1 := hv.t1
  have h2 := hv.t2
  have k1 : IntKind.i64.wrap (f + h.tight) = f + h.tight := IntWalk.i64_in _ (by omega)
  unfold Pl.tig at hr
  by_cases hm : h.start < f + h.tight
  · have HR : Hid (v = h.start) := Lib.hid (by rw [← hr]; omega)
    clear bT hf hv hr h1 h2
    go_enter Try.func71, Try.ntmps71
    go_wp2
    go_ret
    exact ⟨by rw [HR.out]; rfl, hB⟩
  · have HR : Hid (v = f + h.tight) := Lib.hid (by rw [← hr]; omega)
    clear bT hf hv hr h1 h2
    go_enter Try.func71, Try.ntmps71
    go_wp2
    go_ret
    exact ⟨by rw [HR.out]; rfl, hB⟩

set_option maxRecDepth 100000 in
set_option maxHeartbeats 2000000 in
theorem checkhinge_b (h : Pl.Hg) (f n least : Int) (v : Int) (hv : Pl.ckh h f n least = v) (w : World) :
    Calls Try.prog 67 #[.agg (hgA h), .int .i64 f, .int .i64 n, .int .i64 least] w fun e w' => e = .returned (.int .i64 v) ∧ Below w.heap.size w w' := by
  unfold Pl.ckh at hv
  have hB := (Below.refl w.heap.size w).alloc (Nat.le_refl _) (.cells (hgA h) 55)
  have bT := Blk.new w 55 (hgA h)
  have hr := bT.range
  obtain ⟨x1, h1⟩ : ∃ x, Pl.vhg h = x := ⟨_, rfl⟩
  obtain ⟨x2, h2⟩ : ∃ x, Pl.inB 0 f h.start = x := ⟨_, rfl⟩
  obtain ⟨x3, h3⟩ : ∃ x, Pl.inB 0 n 100000 = x := ⟨_, rfl⟩
  obtain ⟨x4, h4⟩ : ∃ x, Pl.inB 0 least h.start = x := ⟨_, rfl⟩
  have H1 := Lib.hid h1
  have H2 := Lib.hid h2
  have H3 := Lib.hid h3
  have H4 := Lib.hid h4
  rw [h1, h2, h3, h4] at hv
  have HV := Lib.hid hv.symm
  clear hv h1 h2 h3 h4
  have hc : x1 = false ∨ (x1 = true ∧ x2 = false) ∨ (x1 = true ∧ x2 = true ∧ x3 = false) ∨ (x1 = true ∧ x2 = true ∧ x3 = true ∧ x4 = false) ∨ (x1 = true ∧ x2 = true ∧ x3 = true ∧ x4 = true) := by cases x1 <;> cases x2 <;> cases x3 <;> cases x4 <;> simp
  rcases hc with rfl | ⟨rfl, rfl⟩ | ⟨rfl, rfl, rfl⟩ | ⟨rfl, rfl, rfl, rfl⟩ | ⟨rfl, rfl, rfl, rfl⟩ <;>
  (go_enter Try.func67, Try.ntmps67
   go_wp2_with (refine ldm_hg hr rfl _ rfl rfl ?_)
   refine (vhinge_b h _ H1.out _).mono ?_
   rintro e w1 ⟨rfl, hb1⟩
   have hB1 := hB.trans (hb1.mono hB.size)
   have bT1 := bT.below hb1 bT.lt
   have q1 := bT1.cell 1
   clear hb1 bT hB hr
   go_wp2_with (go_at_call 72; refine (within_any _ _ _ _).mono ?_; rintro e w1 ⟨rfl, rfl⟩; first | rw [H2.out] | rw [H3.out] | rw [H4.out])
   go_ret
   exact ⟨by rw [HV.out]; rfl, hB1⟩)

set_option maxRecDepth 100000 in
set_option maxHeartbeats 2000000 in
theorem friction_b (h : Pl.Hg) (f : Int) (v : Int) (hv : (if Pl.vhg h = true then (if Pl.inB 0 f h.start = true then 0 else 2) else 41) = v) (w : World) :
    Calls Try.prog 69 #[.agg (hgA h), .int .i64 f] w fun e w' => e = .returned (.int .i64 v) ∧ Below w.heap.size w w' := by
  have hB := (Below.refl w.heap.size w).alloc (Nat.le_refl _) (.cells (hgA h) 55)
  have bT := Blk.new w 55 (hgA h)
  have hr := bT.range
  obtain ⟨x1, h1⟩ : ∃ x, Pl.vhg h = x := ⟨_, rfl⟩
  have H1 := Lib.hid h1
  rw [h1] at hv
  cases x1
  · have HV : Hid (v = 41) := Lib.hid (by rw [← hv]; rfl)
    clear hv h1
    go_enter Try.func69, Try.ntmps69
    go_wp2_with (refine ldm_hg hr rfl _ rfl rfl ?_)
    refine (rvhinge_b h _ H1.out _).mono ?_
    rintro e w1 ⟨rfl, hb1⟩
    have hB1 := hB.trans (hb1.mono hB.size)
    go_wp2
    go_ret
    exact ⟨by rw [HV.out]; rfl, hB1⟩
  by_cases a0 : f < 0
  · have HV : Hid (v = 2) := Lib.hid (by rw [← hv]; unfold Pl.inB; rw [decide_eq_false (by omega)]; rfl)
    clear hv h1
    go_enter Try.func69, Try.ntmps69
    go_wp2_with (refine ldm_hg hr rfl _ rfl rfl ?_)
    refine (rvhinge_b h _ H1.out _).mono ?_
    rintro e w1 ⟨rfl, hb1⟩
    have hB1 := hB.trans (hb1.mono hB.size)
    have bT1 := bT.below hb1 bT.lt
    have q1 := bT1.cell 1
    clear hb1 bT hB hr
    go_wp2
    go_ret
    exact ⟨by rw [HV.out]; rfl, hB1⟩
  by_cases a1 : h.start < f
  · have HV : Hid (v = 2) := Lib.hid (by rw [← hv]; unfold Pl.inB; rw [decide_eq_true (by omega), decide_eq_false (by omega)]; rfl)
    clear hv h1
    go_enter Try.func69, Try.ntmps69
    go_wp2_with (refine ldm_hg hr rfl _ rfl rfl ?_)
    refine (rvhinge_b h _ H1.out _).mono ?_
    rintro e w1 ⟨rfl, hb1⟩
    have hB1 := hB.trans (hb1.mono hB.size)
    have bT1 := bT.below hb1 bT.lt
    have q1 := bT1.cell 1
    clear hb1 bT hB hr
    go_wp2
    go_ret
    exact ⟨by rw [HV.out]; rfl, hB1⟩
  · have HV : Hid (v = 0) := Lib.hid (by rw [← hv]; unfold Pl.inB; rw [decide_eq_true (by omega), decide_eq_true (by omega)]; rfl)
    clear hv h1
    go_enter Try.func69, Try.ntmps69
    go_wp2_with (refine ldm_hg hr rfl _ rfl rfl ?_)
    refine (rvhinge_b h _ H1.out _).mono ?_
    rintro e w1 ⟨rfl, hb1⟩
    have hB1 := hB.trans (hb1.mono hB.size)
    have bT1 := bT.below hb1 bT.lt
    have q1 := bT1.cell 1
    clear hb1 bT hB hr
    go_wp2
    go_ret
    exact ⟨by rw [HV.out]; rfl, hB1⟩
end Go.Proofs.Ytdnfipeadoiepaa
