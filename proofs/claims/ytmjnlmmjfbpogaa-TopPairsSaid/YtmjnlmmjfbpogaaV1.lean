/- within, validTemple, canPair, isIndex, of the program. -/
import Derived.Test.YtmjnlmmjfbpogaaH0
namespace Go.Proofs.Ytmjnlmmjfbpogaa
open Go.RowKit Go.Shelf

set_option maxHeartbeats 400000 in
theorem within_b (n a b : Int) (v : Bool) (hv : Pl.inB a n b = v) (w : World) :
    Calls Try.prog 72 #[.int .i64 n, .int .i64 a, .int .i64 b] w fun e w' => e = .returned (.bool v) ∧ w' = w := by
  by_cases h1 : a ≤ n
  · have HV : Hid (v = decide (n ≤ b)) := Lib.hid (by rw [← hv]; unfold Pl.inB; rw [decide_eq_true h1]; rfl)
    clear hv
    go_enter Try.func72, Try.ntmps72
    go_wp2
    go_ret
    exact ⟨by rw [HV.out]; rfl, rfl⟩
  · have HV : Hid (v = false) := Lib.hid (by rw [← hv]; unfold Pl.inB; rw [decide_eq_false h1]; rfl)
    clear hv
    go_enter Try.func72, Try.ntmps72
    go_wp2
    go_ret
    exact ⟨by rw [HV.out]; rfl, rfl⟩

theorem within_any (n a b : Int) (w : World) :
    Calls Try.prog 72 #[.int .i64 n, .int .i64 a, .int .i64 b] w fun e w' => e = .returned (.bool (Pl.inB a n b)) ∧ w' = w := within_b n a b _ rfl w

set_option maxRecDepth 100000 in
set_option maxHeartbeats 1000000 in
theorem vtemple_b (t : Pl.Tm) (v : Bool) (hv : Pl.vt t = v) (w : World) :
    Calls Try.prog 52 #[.agg (tmA t)] w fun e w' => e = .returned (.bool v) ∧ Below w.heap.size w w' := by
  unfold Pl.vt at hv
  have hB := (Below.refl w.heap.size w).alloc (Nat.le_refl _) (.cells (tmA t) 24)
  have bT := Blk.new w 24 (tmA t)
  have q0 := bT.cell 0
  have q1 := bT.cell 1
  have q2 := bT.cell 2
  have q3 := bT.cell 3
  obtain ⟨x1, h1⟩ : ∃ x, Pl.inB 1 t.num 1000000000 = x := ⟨_, rfl⟩
  obtain ⟨y1, e1⟩ : ∃ x, decide (t.side = 1) = x := ⟨_, rfl⟩
  obtain ⟨y2, e2⟩ : ∃ x, decide (t.side = 2) = x := ⟨_, rfl⟩
  obtain ⟨x3, h3⟩ : ∃ x, Pl.inB 1 t.len 2000 = x := ⟨_, rfl⟩
  obtain ⟨x4, h4⟩ : ∃ x, Pl.inB 1 t.col 9 = x := ⟨_, rfl⟩
  have H1 := Lib.hid h1
  have H3 := Lib.hid h3
  have H4 := Lib.hid h4
  have E1 : (t.side == 1) = y1 := e1
  have E2 : (t.side == 2) = y2 := e2
  rw [h1, h3, h4, e1, e2] at hv
  have HV := Lib.hid hv.symm
  clear hv h1 h3 h4 bT e1 e2
  obtain ⟨y, hy⟩ : ∃ y, (y1 || y2) = y := ⟨_, rfl⟩
  rw [hy] at HV
  have HY := Lib.hid hy
  clear hy
  cases x1
  · clear HY
    go_enter Try.func52, Try.ntmps52
    go_wp2_with (go_at_call 72; refine (within_b _ _ _ _ H1.out _).mono ?_; rintro e w1 ⟨rfl, rfl⟩)
    go_ret
    exact ⟨by rw [HV.out]; rfl, hB⟩
  cases y1 <;> cases y2 <;> (obtain rfl := HY.out; clear HY)
  · go_enter Try.func52, Try.ntmps52
    go_wp2_with (go_at_call 72; refine (within_b _ _ _ _ H1.out _).mono ?_; rintro e w1 ⟨rfl, rfl⟩)
    go_ret
    exact ⟨by rw [HV.out]; rfl, hB⟩
  all_goals
    cases x3 <;>
    (go_enter Try.func52, Try.ntmps52
     go_wp2_with (go_at_call 72; refine (within_any _ _ _ _).mono ?_; rintro e w1 ⟨rfl, rfl⟩; first | rw [H1.out] | rw [H3.out] | rw [H4.out])
     go_ret
     exact ⟨by rw [HV.out]; rfl, hB⟩)
end Go.Proofs.Ytmjnlmmjfbpogaa
