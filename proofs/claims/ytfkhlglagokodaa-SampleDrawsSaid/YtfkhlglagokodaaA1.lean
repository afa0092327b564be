/- within, Valid, ValidScheme, Accepted: of the program and of the document. -/
import Derived.Test.YtfkhlglagokodaaH0
import Derived.Test.YtfkhlglagokodaaP3
namespace Go.Proofs.Ytfkhlglagokodaa
open Go.RowKit Go.Shelf

theorem neB {a b : Int} : (a != b) = decide (a ≠ b) := by rw [Bool.eq_iff_iff]; simp
theorem eqB {a b : Int} : (a == b) = decide (a = b) := by rw [Bool.eq_iff_iff]; simp
set_option maxHeartbeats 400000 in
theorem within_b (n a b : Int) (v : Bool) (hv : Pl.inB a n b = v) (w : World) :
    Calls Try.prog 44 #[.int .i64 n, .int .i64 a, .int .i64 b] w fun e w' => e = .returned (.bool v) ∧ w' = w := by
  by_cases h1 : a ≤ n
  · have HV : Hid (v = decide (n ≤ b)) := Lib.hid (by rw [← hv]; unfold Pl.inB; rw [decide_eq_true h1]; rfl)
    clear hv
    go_enter Try.func44, Try.ntmps44
    go_wp2
    go_ret
    exact ⟨by rw [HV.out]; rfl, rfl⟩
  · have HV : Hid (v = false) := Lib.hid (by rw [← hv]; unfold Pl.inB; rw [decide_eq_false h1]; rfl)
    clear hv
    go_enter Try.func44, Try.ntmps44
    go_wp2
    go_ret
    exact ⟨by rw [HV.out]; rfl, rfl⟩
theorem within_any (n a b : Int) (w : World) :
    Calls Try.prog 44 #[.int .i64 n, .int .i64 a, .int .i64 b] w fun e w' => e = .returned (.bool (Pl.inB a n b)) ∧ w' = w := within_b n a b _ rfl w

set_option maxRecDepth 100000 in
set_option maxHeartbeats 1000000 in
theorem valid_b (p : Pl.Pn) (v : Bool) (hv : Pl.vP p = v) (w : World) :
    Calls Try.prog 17 #[.agg (pnA p)] w fun e w' => e = .returned (.bool v) ∧ Below w.heap.size w w' := by
  unfold Pl.vP at hv
  have hB := (Below.refl w.heap.size w).alloc (Nat.le_refl _) (.cells (pnA p) 23)
  have bT := Blk.new w 23 (pnA p)
  have q0 := bT.cell 0
  have q1 := bT.cell 1
  obtain ⟨x1, h1⟩ : ∃ x, Pl.inB 1 p.s 60 = x := ⟨_, rfl⟩
  obtain ⟨x2, h2⟩ : ∃ x, Pl.inB 0 p.a (p.s - 1) = x := ⟨_, rfl⟩
  rw [h1, h2] at hv
  have HV := Lib.hid hv.symm
  have H1 := Lib.hid h1
  have H2 := Lib.hid h2
  cases x1
  · clear hv h1 h2 bT
    go_enter Try.func17, Try.ntmps17
    go_wp2_with (go_at_call 44; refine (within_b _ _ _ _ H1.out _).mono ?_; rintro e w1 ⟨rfl, rfl⟩)
    go_ret
    exact ⟨by rw [HV.out]; rfl, hB⟩
  · have k1 : IntKind.i64.wrap (p.s - 1) = p.s - 1 := IntWalk.i64_in _ (by have := Pl.inB_iff.1 h1; omega)
    clear hv h1 h2 bT
    go_enter Try.func17, Try.ntmps17
    go_wp2_with (go_at_call 44; refine (within_any _ _ _ _).mono ?_; rintro e w1 ⟨rfl, rfl⟩; first | rw [H1.out] | rw [H2.out])
    go_ret
    exact ⟨by rw [HV.out]; rfl, hB⟩

set_option maxRecDepth 100000 in
set_option maxHeartbeats 1000000 in
theorem rvalid_b (p : Pl.Pn) (v : Bool) (hv : Pl.vP p = v) (w : World) :
    Calls Try.prog 18 #[.agg (pnA p)] w fun e w' => e = .returned (.bool v) ∧ Below w.heap.size w w' := by
  unfold Pl.vP Pl.inB at hv
  have hB := (Below.refl w.heap.size w).alloc (Nat.le_refl _) (.cells (pnA p) 23)
  have bT := Blk.new w 23 (pnA p)
  have q0 := bT.cell 0
  have q1 := bT.cell 1
  have HV := Lib.hid hv.symm
  clear hv bT
  by_cases c1 : 1 ≤ p.s
  · by_cases c2 : p.s ≤ 60
    · by_cases c3 : 0 ≤ p.a
      · have HC : Hid (v = decide (p.a < p.s)) := Lib.hid (by rw [HV.out, decide_eq_true c1, decide_eq_true c2, decide_eq_true c3]; simp; omega)
        clear HV
        go_enter Try.func18, Try.ntmps18
        go_wp2
        go_ret
        exact ⟨by rw [HC.out]; rfl, hB⟩
      · have HC : Hid (v = false) := Lib.hid (by rw [HV.out, decide_eq_false c3]; simp)
        clear HV
        go_enter Try.func18, Try.ntmps18
        go_wp2
        go_ret
        exact ⟨by rw [HC.out]; rfl, hB⟩
    · have HC : Hid (v = false) := Lib.hid (by rw [HV.out, decide_eq_false c2]; simp)
      clear HV
      go_enter Try.func18, Try.ntmps18
      go_wp2
      go_ret
      exact ⟨by rw [HC.out]; rfl, hB⟩
  · have HC : Hid (v = false) := Lib.hid (by rw [HV.out, decide_eq_false c1]; simp)
    clear HV
    go_enter Try.func18, Try.ntmps18
    go_wp2
    go_ret
    exact ⟨by rw [HC.out]; rfl, hB⟩

/-- the parts of the error, and of the answer -/
theorem acE_not {p : Pl.Pn} (h : Pl.vP p = false) (bad : Int) : Pl.acE p bad = 50 ∧ Pl.acV p bad = false := by unfold Pl.acV Pl.acE; simp [h]
theorem acE_bad {p : Pl.Pn} (h : Pl.vP p = true) {bad : Int} (h2 : Pl.inB 0 bad p.s = false) : Pl.acE p bad = 2 ∧ Pl.acV p bad = false := by
  have : ¬ (0 ≤ bad ∧ bad ≤ p.s) := fun e => by rw [Pl.inB_iff.2 e] at h2; cases h2
  unfold Pl.acV Pl.acE; rw [if_pos h, if_neg this]; exact ⟨rfl, rfl⟩
theorem acE_ok {p : Pl.Pn} (h : Pl.vP p = true) {bad : Int} (h2 : Pl.inB 0 bad p.s = true) : Pl.acE p bad = 0 ∧ Pl.acV p bad = decide (bad ≤ p.a) := by
  unfold Pl.acV Pl.acE; rw [if_pos h, if_pos (Pl.inB_iff.1 h2)]; exact ⟨rfl, rfl⟩

set_option maxRecDepth 100000 in
set_option maxHeartbeats 1000000 in
theorem accepted_b (p : Pl.Pn) (bad : Int) (w : World) :
    Calls Try.prog 15 #[.agg (pnA p), .int .i64 bad] w fun e w' => e = .returned (.tuple #[.bool (Pl.acV p bad), .int .i64 (Pl.acE p bad)]) ∧ Below w.heap.size w w' := by
  have hB := (Below.refl w.heap.size w).alloc (Nat.le_refl _) (.cells (pnA p) 23)
  have bT := Blk.new w 23 (pnA p)
  have hr := bT.range
  obtain ⟨x1, h1⟩ : ∃ x, Pl.vP p = x := ⟨_, rfl⟩
  obtain ⟨x2, h2⟩ : ∃ x, Pl.inB 0 bad p.s = x := ⟨_, rfl⟩
  have HV := Lib.hid (valid_b p x1 h1)
  have H2 := Lib.hid h2
  cases x1
  · obtain ⟨e1, e2⟩ := acE_not h1 bad
    have E1 := Lib.hid e1
    have E2 := Lib.hid e2
    clear h1 h2 e1 e2 bT
    go_enter Try.func15, Try.ntmps15
    go_wp2_with (refine ldm_pn hr rfl _ rfl rfl ?_)
    refine (HV.out _).mono ?_
    rintro e w1 ⟨rfl, hb1⟩
    have hB1 := hB.trans (hb1.mono hB.size)
    go_wp2
    go_ret2
    exact ⟨by rw [E1.out, E2.out]; rfl, hB1⟩
  cases x2
  · obtain ⟨e1, e2⟩ := acE_bad h1 h2
    have E1 := Lib.hid e1
    have E2 := Lib.hid e2
    clear h1 h2 e1 e2
    go_enter Try.func15, Try.ntmps15
    go_wp2_with (refine ldm_pn hr rfl _ rfl rfl ?_)
    refine (HV.out _).mono ?_
    rintro e w1 ⟨rfl, hb1⟩
    have hB1 := hB.trans (hb1.mono hB.size)
    have bT1 := bT.below hb1 bT.lt
    have q0 := bT1.cell 0
    have q1 := bT1.cell 1
    clear bT bT1 hr
    go_wp2_with (go_at_call 44; refine (within_b _ _ _ _ H2.out _).mono ?_; rintro e w1 ⟨rfl, rfl⟩)
    go_ret2
    exact ⟨by rw [E1.out, E2.out]; rfl, hB1⟩
  · obtain ⟨e1, e2⟩ := acE_ok h1 h2
    have E1 := Lib.hid e1
    have E2 := Lib.hid e2
    clear h1 h2 e1 e2
    go_enter Try.func15, Try.ntmps15
    go_wp2_with (refine ldm_pn hr rfl _ rfl rfl ?_)
    refine (HV.out _).mono ?_
    rintro e w1 ⟨rfl, hb1⟩
    have hB1 := hB.trans (hb1.mono hB.size)
    have bT1 := bT.below hb1 bT.lt
    have q0 := bT1.cell 0
    have q1 := bT1.cell 1
    clear bT bT1 hr
    go_wp2_with (go_at_call 44; refine (within_b _ _ _ _ H2.out _).mono ?_; rintro e w1 ⟨rfl, rfl⟩)
    go_ret2
    exact ⟨by rw [E1.out, E2.out]; rfl, hB1⟩

set_option maxRecDepth 100000 in
set_option maxHeartbeats 1000000 in
theorem raccepted_b (p : Pl.Pn) (bad : Int) (w : World) :
    Calls Try.prog 16 #[.agg (pnA p), .int .i64 bad] w fun e w' => e = .returned (.tuple #[.bool (Pl.acV p bad), .int .i64 (Pl.acE p bad)]) ∧ Below w.heap.size w w' := by
  have hB := (Below.refl w.heap.size w).alloc (Nat.le_refl _) (.cells (pnA p) 23)
  have bT := Blk.new w 23 (pnA p)
  have hr := bT.range
  obtain ⟨x1, h1⟩ : ∃ x, Pl.vP p = x := ⟨_, rfl⟩
  obtain ⟨x2, h2⟩ : ∃ x, Pl.inB 0 bad p.s = x := ⟨_, rfl⟩
  have HV := Lib.hid (rvalid_b p x1 h1)
  cases x1
  · obtain ⟨e1, e2⟩ := acE_not h1 bad
    have E1 := Lib.hid e1
    have E2 := Lib.hid e2
    clear h1 h2 e1 e2 bT
    go_enter Try.func16, Try.ntmps16
    go_wp2_with (refine ldm_pn hr rfl _ rfl rfl ?_)
    refine (HV.out _).mono ?_
    rintro e w1 ⟨rfl, hb1⟩
    have hB1 := hB.trans (hb1.mono hB.size)
    go_wp2
    go_ret2
    exact ⟨by rw [E1.out, E2.out]; rfl, hB1⟩
  cases x2
  · obtain ⟨e1, e2⟩ := acE_bad h1 h2
    have E1 := Lib.hid e1
    have E2 := Lib.hid e2
    have hc : bad < 0 ∨ (¬ bad < 0 ∧ p.s < bad) := by
      by_cases c : bad < 0
      · exact .inl c
      · refine .inr ⟨c, ?_⟩
        by_cases d : p.s < bad
        · exact d
        · rw [Pl.inB_iff.2 ⟨by omega, by omega⟩] at h2; cases h2
    clear h1 h2 e1 e2
    rcases hc with c1 | ⟨c1, c2⟩ <;>
    (go_enter Try.func16, Try.ntmps16
     go_wp2_with (refine ldm_pn hr rfl _ rfl rfl ?_)
     refine (HV.out _).mono ?_
     rintro e w1 ⟨rfl, hb1⟩
     have hB1 := hB.trans (hb1.mono hB.size)
     have bT1 := bT.below hb1 bT.lt
     have q0 := bT1.cell 0
     have q1 := bT1.cell 1
     clear bT bT1 hr
     go_wp2
     go_ret2
     exact ⟨by rw [E1.out, E2.out]; rfl, hB1⟩)
  · obtain ⟨e1, e2⟩ := acE_ok h1 h2
    have E1 := Lib.hid e1
    have E2 := Lib.hid e2
    obtain ⟨d1, d2⟩ := Pl.inB_iff.1 h2
    have c1 : ¬ bad < 0 := by omega
    have c2 : ¬ p.s < bad := by omega
    clear h1 h2 e1 e2 d1 d2
    go_enter Try.func16, Try.ntmps16
    go_wp2_with (refine ldm_pn hr rfl _ rfl rfl ?_)
    refine (HV.out _).mono ?_
    rintro e w1 ⟨rfl, hb1⟩
    have hB1 := hB.trans (hb1.mono hB.size)
    have bT1 := bT.below hb1 bT.lt
    have q0 := bT1.cell 0
    have q1 := bT1.cell 1
    clear bT bT1 hr
    go_wp2
    go_ret2
    exact ⟨by rw [E1.out, E2.out]; rfl, hB1⟩
end Go.Proofs.Ytfkhlglagokodaa
