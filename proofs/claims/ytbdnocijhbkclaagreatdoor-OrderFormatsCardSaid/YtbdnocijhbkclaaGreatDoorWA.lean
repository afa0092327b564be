/- Split and Discount, of the program; the sanity check. -/
import Derived.Test.YtbdnocijhbkclaaGreatDoorW9
namespace Go.Proofs.YtbdnocijhbkclaaGreatDoor
open Go.RowKit Go.Shelf

theorem spV_zero {x : Int} {l : List Int} (h : Pl.spE x l = 0) : Pl.spV x l = Pl.tab (Pl.shr x l) l.length := if_pos h
theorem spV_no {x : Int} {l : List Int} (h : Pl.spE x l ≠ 0) : Pl.spV x l = [] := if_neg h
/-- what Split gives -/
def SpI (x : Int) (l : List Int) (w : World) (v : Value) (w' : World) : Prop := w'.ownsRow w.heap.size 3 1 v (Pl.spV x l).length (flt inL (Pl.spV x l)) ∧ Below w.heap.size w w'

set_option maxRecDepth 100000 in
set_option maxHeartbeats 4000000 in
theorem Split_b (x : Int) (A : Option Addr) (l : List Int) (c m : Nat) (hm : l.length = m) (hm6 : m ≤ maxLen) (w : World) (hI : Rows inL 1 w A l) :
    Calls Tryz.prog 12 #[.int .i64 x, .slice A m c] w fun e w' => ∃ v, e = .returned (.tuple #[v, .int .i64 (Pl.spE x l)]) ∧ SpI x l w v w' := by
  have hm63 : m ≤ 9223372036854775807 := by unfold maxLen at hm6; omega
  have nilI : ∀ W, Pl.spE x l ≠ 0 → Below w.heap.size w W → SpI x l w (.slice none 0 0) W := fun W h hb => by
    unfold SpI; rw [spV_no h]; exact ⟨World.ownsRow_nil _ _ _ _, hb⟩
  have HN := Lib.hid nilI
  have hB := Below.refl w.heap.size w
  clear nilI
  by_cases h100 : 100 < m
  · have i1 : (100 : Int) < (m : Int) := by omega
    have HE := Lib.hid (Pl.spE_big (c := x) (by rw [hm]; exact h100))
    rw [HE.out]
    have HF := Lib.hid (HN.out w (by rw [HE.out]; decide) hB)
    clear HE hI hm hm6 h100
    go_enter Tryz.func12, Tryz.ntmps12
    go_wp2
    go_ret2
    exact ⟨_, rfl, HF.out⟩
  have i1 : ¬ (100 : Int) < (m : Int) := by omega
  have hl100 : l.length ≤ 100 := by omega
  obtain ⟨x1, h1⟩ : ∃ y, Pl.am x = y := ⟨_, rfl⟩
  obtain ⟨x2, h2⟩ : ∃ y, Pl.wok l = y := ⟨_, rfl⟩
  have eg : ∀ args w, (callFunc 24 args).run Tryz.prog w = .ok (.enter 24 args) w := enters_of Tryz.func24 (by kernel_rfl) rfl
  have H1 := Lib.hid (fun w' : World => am_b x x1 h1 w')
  have H2 := Lib.hid (every_i 24 eg A l c m hm hm6 Pl.wt x2 h2 w hI (fun z hz W _ => (wt_b z _ rfl W).mono fun e W' ⟨he, hw⟩ => ⟨he, by subst hw; exact Below.refl _ _⟩))
  have HI := Lib.hid hI
  obtain ⟨a, ha⟩ : ∃ a, Pl.al l = a := ⟨_, rfl⟩
  have H3 : Hid (x2 = true → ∀ W, Below w.heap.size w W → Calls Tryz.prog 25 #[.slice A m c] W fun e w' => e = .returned (.int .i64 a) ∧ w' = W) := Lib.hid (fun h W hb => by
    rw [h] at h2
    exact sum_b A l c m hm (by omega) (fun k hk => by have := Pl.cu_top h2 hl100 (k := k) (by omega); omega) a (by rw [← ha, ← hm]; rfl) W (HI.out.below hb))
  have H4 : Hid (Pl.spE x l = 0 → ∀ W, Below w.heap.size w W → Calls Tryz.prog 26 #[.int .i64 x, .slice A m c] W fun e w' => ∃ v, e = .returned v ∧ w'.ownsRow W.heap.size 3 1 v m (flt inL (Pl.tab (Pl.shr x l) m)) ∧ Below W.heap.size W w') := Lib.hid (fun h W hb => shares_b x A l c m hm (Pl.Sp.of h) W (HI.out.below hb))
  have HM := Lib.hid hm
  have HO : Hid (Pl.spOk x l = (x1 && (x2 && decide (a ≠ 0)))) := Lib.hid (by unfold Pl.spOk; rw [h1, h2, ha])
  have HEN := Lib.hid (fun h => Pl.spE_no (c := x) hl100 h)
  have HEO := Lib.hid (fun h => Pl.spE_ok (c := x) hl100 h)
  clear h1 h2 ha hI hm hm6 h100 hl100 eg
  cases x1
  · have HE := Lib.hid (HEN.out (by rw [HO.out]; rfl))
    rw [HE.out]
    have HF := Lib.hid (HN.out w (by rw [HE.out]; decide) hB)
    go_enter Tryz.func12, Tryz.ntmps12
    go_wp2_with fail
    refine (H1.out _).mono ?_
    rintro e w1 ⟨rfl, hw1⟩
    subst hw1
    go_wp2
    go_ret2
    exact ⟨_, rfl, HF.out⟩
  cases x2
  · have HE := Lib.hid (HEN.out (by rw [HO.out]; rfl))
    rw [HE.out]
    have HF := Lib.hid (fun W hb => HN.out W (by rw [HE.out]; decide) hb)
    go_enter Tryz.func12, Tryz.ntmps12
    go_wp2_with fail
    refine (H1.out _).mono ?_
    rintro e w1 ⟨rfl, hw1⟩
    subst hw1
    go_wp2_with fail
    refine H2.out.mono ?_
    rintro e w2 ⟨rfl, hb2⟩
    go_wp2
    go_ret2
    exact ⟨_, rfl, HF.out _ hb2⟩
  have H5 := Lib.hid (H3.out rfl)
  clear H3
  by_cases hz : a = 0
  · have HE := Lib.hid (HEN.out (by rw [HO.out, hz]; rfl))
    rw [HE.out]
    have HF := Lib.hid (fun W hb => HN.out W (by rw [HE.out]; decide) hb)
    subst hz
    go_enter Tryz.func12, Tryz.ntmps12
    go_wp2_with fail
    refine (H1.out _).mono ?_
    rintro e w1 ⟨rfl, hw1⟩
    subst hw1
    go_wp2_with fail
    refine H2.out.mono ?_
    rintro e w2 ⟨rfl, hb2⟩
    have HF2 := Lib.hid (HF.out _ hb2)
    have H6 := Lib.hid (H5.out _ hb2)
    go_wp2_with fail
    refine H6.out.mono ?_
    rintro e w3 ⟨rfl, hw3⟩
    subst hw3
    go_wp2
    go_ret2
    exact ⟨_, rfl, HF2.out⟩
  · have HE := Lib.hid (HEO.out (by rw [HO.out, decide_eq_true (show a ≠ 0 from hz)]; rfl))
    rw [HE.out]
    have H7 := Lib.hid (H4.out HE.out)
    have HF : Hid (∀ W v W', Below w.heap.size w W → W'.ownsRow W.heap.size 3 1 v m (flt inL (Pl.tab (Pl.shr x l) m)) → Below W.heap.size W W' → SpI x l w v W') := Lib.hid (fun W v W' hb ho hb' => by
      unfold SpI
      rw [spV_zero HE.out, Pl.tab_len, HM.out]
      exact ⟨own_mono ho hb.size, hb.trans (hb'.mono hb.size)⟩)
    have hz1 : ¬ a = 0 := hz
    clear H4 HEN HEO HN
    go_enter Tryz.func12, Tryz.ntmps12
    go_wp2_with fail
    refine (H1.out _).mono ?_
    rintro e w1 ⟨rfl, hw1⟩
    subst hw1
    go_wp2_with fail
    refine H2.out.mono ?_
    rintro e w2 ⟨rfl, hb2⟩
    have H6 := Lib.hid (H5.out _ hb2)
    have H8 := Lib.hid (H7.out _ hb2)
    clear H5 H7
    go_wp2_with fail
    refine H6.out.mono ?_
    rintro e w3 ⟨rfl, hw3⟩
    subst hw3
    go_wp2_with fail
    refine H8.out.mono ?_
    rintro e w4 ⟨v, rfl, ho, hb4⟩
    have HG := Lib.hid (HF.out _ _ _ hb2 ho hb4)
    clear ho
    go_wp2
    go_ret2
    exact ⟨_, rfl, HG.out⟩

theorem one3 : Pl.spE 100 [1, 1, 1] = 0 := by decide
theorem one3V : Pl.spV 100 [1, 1, 1] = [33, 33, 34] := by decide
theorem con7 : Pl.coV [] Pl.eurB 0 7 = 7 ∧ Pl.coE [] Pl.eurB 0 7 = 0 := by
  have h1 : Pl.vrs [] = true := by decide
  have h2 : (Pl.cyB Pl.eurB && (Pl.dy 0 && Pl.am 7)) = true := by decide
  unfold Pl.coV Pl.coE Pl.cV Pl.cE
  rw [if_pos h1, if_pos h1, if_pos h2, if_pos h2, if_pos rfl, if_pos rfl]
  exact ⟨rfl, rfl⟩

set_option maxRecDepth 100000 in
set_option maxHeartbeats 4000000 in
/-- the sanity check -/
theorem sane_any (w : World) : Calls Tryz.prog 6 #[] w fun e w' => e = .returned (.bool true) ∧ Below w.heap.size w w' := by
  have hB := (Below.refl w.heap.size w).alloc (Nat.le_refl _) (.cells #[.int .i64 1, .int .i64 1, .int .i64 1] 3)
  have bX := Blk.new w 3 #[.int .i64 1, .int .i64 1, .int .i64 1]
  have hR : Rows inL 1 (w.alloc (.cells #[.int .i64 1, .int .i64 1, .int .i64 1] 3)) (some ⟨w.heap.size, 0, none⟩) [1, 1, 1] := .inr ⟨_, _, rfl, bX.lt, fun i hi j v hj => by
    have hj0 : j = 0 := by
      rcases j with _ | j
      · rfl
      · simp [inL] at hj
    subst hj0
    have e := bX.cell (0 + i * 1 + 0)
    rw [e]
    match i, hi with
    | 0, _ => simpa [inL] using hj
    | 1, _ => simpa [inL] using hj
    | 2, _ => simpa [inL] using hj⟩
  have H1 := Lib.hid (Split_b 100 (some ⟨w.heap.size, 0, none⟩) [1, 1, 1] 3 3 rfl (by unfold maxLen; omega) _ hR)
  rw [one3] at H1
  have H2 := Lib.hid (fun w' : World => Convert_b none [] 0 0 rfl (by unfold maxLen; omega) (by simp) Pl.eurB (by decide) 0 7 w' (.inl rfl))
  rw [con7.1, con7.2] at H2
  clear bX hR
  go_enter Tryz.func6, Tryz.ntmps6
  go_wp2_with fail
  refine H1.out.mono ?_
  rintro e w1 ⟨v, rfl, ho, hb⟩
  rw [one3V] at ho
  obtain ⟨A1, c1, rfl, hr, _, _⟩ := rows_of_owns encIn ho
  obtain ⟨b, o, rfl, hbl, hc⟩ := hr.open (by simp)
  have p0 := row_cell (mk := Value.int .i64) hbl hc (Below.refl _ _) (i := 0) (by simp)
  have p2 := row_cell (mk := Value.int .i64) hbl hc (Below.refl _ _) (i := 2) (by simp)
  have hB1 := hB.trans (hb.mono hB.size)
  clear hr hc ho hb hB H1
  go_wp2_with fail
  refine (H2.out _).mono ?_
  rintro e w2 ⟨rfl, hb2⟩
  have r0 : w2.cell? ⟨b, o, none⟩ = some (.int .i64 33) := (hb2.cell (p := ⟨b, o, none⟩) hbl).trans p0
  have r2 : w2.cell? ⟨b, o + 2, none⟩ = some (.int .i64 34) := (hb2.cell (p := ⟨b, o + 2, none⟩) hbl).trans p2
  have hB2 := hB1.trans (hb2.mono hB1.size)
  clear p0 p2 hb2 hB1
  go_wp2
  go_ret
  exact ⟨rfl, hB2⟩
end Go.Proofs.YtbdnocijhbkclaaGreatDoor
