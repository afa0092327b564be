/- SampleFalls. -/
import Derived.Test.YtfkhlglagokodaaA6
import Derived.Test.YtfkhlglagokodaaD1
namespace Go.Proofs.Ytfkhlglagokodaa
open Go.RowKit Go.Shelf

theorem C_val {s a l c : Nat} (h1 : l ≤ 60) (h2 : c ≤ l) (h3 : s ≤ l) (h4 : a < s) : Pl.Ce ⟨s, a⟩ l c = 0 ∧ Pl.Cn ⟨s, a⟩ l c = Pl.cn s a l c ∧ Pl.Cd ⟨s, a⟩ l c = Pl.cd s a l c := by
  have hv : Pl.vP ⟨s, a⟩ = true := Pl.vP_iff.2 ⟨by show (1 : Int) ≤ s; omega, by show (s : Int) ≤ 60; omega, by show (0 : Int) ≤ a; omega, by show (a : Int) ≤ s - 1; omega⟩
  obtain ⟨s', a', l', c', e1, e2, e3, _, _, _, _, e4, e5, e6⟩ := Pl.Ce_ok hv (Pl.inB_iff.2 (show (s : Int) ≤ l ∧ (l : Int) ≤ 60 by omega)) (Pl.inB_iff.2 (show (0 : Int) ≤ c ∧ (c : Int) ≤ l by omega))
  injection e1 with e1 e1'
  cases Int.ofNat.inj e1
  cases Int.ofNat.inj e1'
  cases Int.ofNat.inj e2
  cases Int.ofNat.inj e3
  exact ⟨e4, e5, e6⟩

set_option maxRecDepth 100000 in
set_option maxHeartbeats 4000000 in
theorem below_b (s a s' a' l c o : Nat) (h1 : l ≤ 60) (h2 : c ≤ l) (h2' : o ≤ l) (h3 : s ≤ l) (h3' : s' ≤ l) (h4 : a < s) (h4' : a' < s') (v : Bool) (hv : decide (Pl.cn s a l c * Pl.cd s' a' l o ≤ Pl.cn s' a' l o * Pl.cd s a l c) = v) (w : World) :
    Calls Try.prog 42 #[.agg (pnA ⟨s, a⟩), .agg (pnA ⟨s', a'⟩), .int .i64 l, .int .i64 c, .int .i64 o] w fun e w' => e = .returned (.bool v) ∧ Below w.heap.size w w' := by
  have hB0 := ((Below.refl w.heap.size w).alloc (Nat.le_refl _) (.cells (pnA ⟨s, a⟩) 23)).alloc (by simp) (.cells (pnA ⟨s', a'⟩) 23)
  have bA := (Blk.new w 23 (pnA ⟨s, a⟩)).alloc (.cells (pnA ⟨s', a'⟩) 23)
  have bC := Blk.new (w.alloc (.cells (pnA ⟨s, a⟩) 23)) 23 (pnA ⟨s', a'⟩)
  simp only [World.size_alloc] at bC
  obtain ⟨e1, e2, e3⟩ := C_val h1 h2 h3 h4
  obtain ⟨f1, f2, f3⟩ := C_val h1 h2' h3' h4'
  have H1 := Lib.hid (fun w' : World => Chance_b ⟨s, a⟩ l c w')
  have H2 := Lib.hid (fun w' : World => Chance_b ⟨s', a'⟩ l o w')
  rw [e1, e2, e3] at H1
  rw [f1, f2, f3] at H2
  have b1 := Pl.cn_le h2 h4
  have b2 := Pl.cd_big (s := s) (a := a) (bad := c) h1
  have b3 := Pl.cn_le h2' h4'
  have b4 := Pl.cd_big (s := s') (a := a') (bad := o) h1
  have p1 := Pl.cd_pos (a := a) (bad := c) h3
  have p2 := Pl.cd_pos (a := a') (bad := o) h3'
  have H3 := Lib.hid (fun w' : World => Compare_b (Pl.cn s a l c) (Pl.cd s a l c) (Pl.cn s' a' l o) (Pl.cd s' a' l o) (by omega) (by omega) (by omega) (by omega) p1 p2 w')
  have HV : Hid (decide (Pl.cmp (Pl.cn s a l c * Pl.cd s' a' l o) (Pl.cn s' a' l o * Pl.cd s a l c) ≤ 0) = v) := Lib.hid (by rw [← hv]; exact decide_eq_decide.2 Pl.cmp_le)
  generalize Pl.cmp (Pl.cn s a l c * Pl.cd s' a' l o) (Pl.cn s' a' l o * Pl.cd s a l c) = r at *
  generalize Pl.cn s a l c = x1 at *
  generalize Pl.cd s a l c = x2 at *
  generalize Pl.cn s' a' l o = y1 at *
  generalize Pl.cd s' a' l o = y2 at *
  have r0 := bA.range
  clear e1 e2 e3 f1 f2 f3 b1 b2 b3 b4 p1 p2 hv h1 h2 h2' h3 h3' h4 h4'
  go_enter Try.func42, Try.ntmps42
  go_wp2_with (refine ldm_pn (s := ⟨s, a⟩) r0 rfl _ rfl rfl ?_)
  refine (H1.out _).mono ?_
  rintro e w1 ⟨rfl, hb1⟩
  have hB1 := hB0.trans (hb1.mono hB0.size)
  have bC1 := bC.below hb1 bC.lt
  have r1 := bC1.range
  clear bA bC r0 hb1 hB0
  go_wp2_with (refine ldm_pn (s := ⟨s', a'⟩) r1 rfl _ rfl rfl ?_)
  refine (H2.out _).mono ?_
  rintro e w2 ⟨rfl, hb2⟩
  have hB2 := hB1.trans (hb2.mono hB1.size)
  clear bC1 r1 hb2 hB1
  go_wp2_with fail
  refine (H3.out _).mono ?_
  rintro e w3 ⟨rfl, hb3⟩
  have hB3 := hB2.trans (hb3.mono hB2.size)
  go_wp2
  go_ret
  exact ⟨by rw [← HV.out]; rfl, hB3⟩

theorem le_true {x y : Nat} (h : x ≤ y) : decide (x ≤ y) = true := decide_eq_true h

set_option maxRecDepth 100000 in
set_option maxHeartbeats 16000000 in
theorem law_falls (p : Pl.Pn) (L b : Int) (w : World) :
    Calls Try.prog 12 #[.agg (pnA p), .int .i64 L, .int .i64 b] w fun e w' => e = .returned (.bool true) ∧ Below w.heap.size w w' := by
  have hB0 := (Below.refl w.heap.size w).alloc (Nat.le_refl _) (.cells (pnA p) 23)
  have bP := Blk.new w 23 (pnA p)
  have H1 := Lib.hid (fun (w' : World) => Chance_b p L b w')
  have H7 := Lib.hid awake_any
  have hr0 := bP.range
  by_cases he : Pl.Ce p L b = 0
  rotate_left
  · have e2 : Pl.Cn p L b = 0 := by unfold Pl.Cn; rw [if_neg he]
    have e3 : Pl.Cd p L b = 0 := by unfold Pl.Cd; rw [if_neg he]
    rw [e2, e3] at H1
    generalize Pl.Ce p L b = E at *
    have he1 : (E != 0) = true := by simpa using he
    clear he e2 e3
    go_enter Try.func12, Try.ntmps12
    go_wp2_with (refine ldm_pn hr0 rfl _ rfl rfl ?_)
    refine (H1.out _).mono ?_
    rintro e w1 ⟨rfl, hb1⟩
    have hB1 := hB0.trans (hb1.mono hB0.size)
    clear hb1 hB0 bP hr0
    go_wp2_with fail
    refine (H7.out _).mono ?_
    rintro e w2 ⟨rfl, hb2⟩
    have hB2 := hB1.trans (hb2.mono hB1.size)
    go_wp2
    go_ret
    exact ⟨rfl, hB2⟩
  · have hv : Pl.vP p = true := by
      cases h : Pl.vP p with
      | true => rfl
      | false => rw [(Pl.Ce_not h L b).1] at he; cases he
    have hin : Pl.inB p.s L 60 = true ∧ Pl.inB 0 b L = true := by
      by_cases h : Pl.inB p.s L 60 = true ∧ Pl.inB 0 b L = true
      · exact h
      · rw [(Pl.Ce_bad hv h).1] at he; cases he
    obtain ⟨s, a, l, c, rfl, rfl, rfl, h1, h2, h3, h4, e1, e2, e3⟩ := Pl.Ce_ok hv hin.1 hin.2
    rw [e1, e2, e3] at H1
    have b1 := Pl.cn_le h2 h4
    have b2 := Pl.cd_big (s := s) (a := a) (bad := c) h1
    have p1 := Pl.cd_pos (a := a) (bad := c) h3
    have heq : c ≤ a → Pl.cn s a l c = Pl.cd s a l c := fun h => Pl.cn_one h2 h4 h
    have HBel1 : Hid (c < l → ∀ w', Calls Try.prog 42 #[.agg (pnA ⟨s, a⟩), .agg (pnA ⟨s, a⟩), .int .i64 l, .int .i64 ((c : Int) + 1), .int .i64 c] w' fun e w'' => e = .returned (.bool true) ∧ Below w'.heap.size w' w'') := Lib.hid (fun hlt w' =>
      below_b s a s a l (c + 1) c h1 hlt h2 h3 h3 h4 h4 true (le_true ((Pl.frac_nm h3 rfl).2 (Pl.nm_fall hlt h4))) w')
    have HVq := Lib.hid (fun w' : World => valid_b ⟨s, (a : Int) + 1⟩ _ rfl w')
    have HBel2 : Hid (a + 1 < s → ∀ w', Calls Try.prog 42 #[.agg (pnA ⟨s, a⟩), .agg (pnA ⟨s, (a : Int) + 1⟩), .int .i64 l, .int .i64 c, .int .i64 c] w' fun e w'' => e = .returned (.bool true) ∧ Below w'.heap.size w' w'') := Lib.hid (fun hlt w' =>
      below_b s a s (a + 1) l c c h1 h2 h2 h3 h3 h4 hlt true (le_true ((Pl.frac_nm h3 rfl).2 (Pl.nm_acc s a l c))) w')
    obtain ⟨V, hV⟩ : ∃ V, Pl.vP ⟨s, (a : Int) + 1⟩ = V := ⟨_, rfl⟩
    have hVs : V = true → a + 1 < s := fun h => by
      have h5 := Pl.vP_iff.1 (hV.trans h)
      have h6 : (a : Int) + 1 ≤ (s : Int) - 1 := h5.2.2.2
      omega
    rw [hV] at HVq
    generalize Pl.cn s a l c = x at *
    generalize Pl.cd s a l c = y at *
    have n1 : ¬ (x : Int) < 0 := by omega
    have n2 : ¬ (y : Int) < (x : Int) := by omega
    have n3 : ¬ (y : Int) < 1 := by omega
    have ka : IntKind.i64.wrap ((a : Int) + 1) = (a : Int) + 1 := IntWalk.i64_in _ (by omega)
    have kc : IntKind.i64.wrap ((c : Int) + 1) = (c : Int) + 1 := IntWalk.i64_in _ (by omega)
    have HEQ := Lib.hid heq
    have HVs := Lib.hid hVs
    have hl60 : l ≤ 60 := h1
    have hcl : c ≤ l := h2
    have hal : a ≤ l := by omega
    clear he hv hin e1 e2 e3 b1 b2 p1 heq hVs hV h1 h2 h3 h4
    have hc4 : (¬ (c : Int) ≤ a ∨ ((c : Int) ≤ a ∧ x = y)) := by
      by_cases h : (c : Int) ≤ a
      · exact .inr ⟨h, HEQ.out (by omega)⟩
      · exact .inl h
    have hc5 : ((c : Int) < l ∧ c < l) ∨ ¬ (c : Int) < l := by
      by_cases h : (c : Int) < l
      · exact .inl ⟨h, by omega⟩
      · exact .inr h
    go_enter Try.func12, Try.ntmps12
    go_wp2_with (refine ldm_pn (s := ⟨s, a⟩) hr0 rfl _ rfl rfl ?_)
    refine (H1.out _).mono ?_
    rintro e w1 ⟨rfl, hb1⟩
    have hB1 := hB0.trans (hb1.mono hB0.size)
    have bP1 := bP.below hb1 bP.lt
    have q1 := bP1.cell 1
    have hr1 := bP1.range
    have hbp := bP1.lt
    clear hb1 hB0 bP hr0 H1 HEQ
    rcases hc4 with hca | ⟨hca, rfl⟩ <;> rcases hc5 with ⟨hcl1, hcl2⟩ | hcl1
    · have HC1 := Lib.hid (HBel1.out hcl2)
      go_wp2_with (refine ldm_pn (s := ⟨s, a⟩) hr1 rfl _ rfl rfl ?_)
      refine (HC1.out _).mono ?_
      rintro e w2 ⟨rfl, hb2⟩
      have hB2 := hB1.trans (hb2.mono hB1.size)
      have bP2 := bP1.below hb2 bP1.lt
      have hr2 := bP2.range
      have hbp2 := bP2.lt
      clear hb2 hB1 bP1 q1 hr1 hbp HC1
      have bQ := Blk.new w2 23 (pnA ⟨s, (a : Int) + 1⟩)
      have hB3 := hB2.alloc hB2.size (.cells (pnA ⟨s, (a : Int) + 1⟩) 23)
      have bP3 := bP2.alloc (.cells (pnA ⟨s, (a : Int) + 1⟩) 23)
      go_wp2_with (refine ldm_pn (s := ⟨s, a⟩) hr2 rfl _ rfl rfl ?_)
      refine (HVq.out _).mono ?_
      rintro e w4 ⟨rfl, hb4⟩
      have hB4 := hB3.trans (hb4.mono hB3.size)
      have bP4 := bP3.below hb4 bP3.lt
      have bQ4 := bQ.below hb4 bQ.lt
      have hrP := bP4.range
      have hrQ := bQ4.range
      clear hb4 hB3 bP3 bQ hB2 bP2 hr2 hbp2 HVq
      cases V with
      | true =>
        have HC2 := Lib.hid (HBel2.out (HVs.out rfl))
        clear HVs
        go_wp2_with (first | refine ldm_pn (s := ⟨s, a⟩) hrP rfl _ rfl rfl ?_ | refine ldm_pn (s := ⟨s, (a : Int) + 1⟩) hrQ rfl _ rfl rfl ?_)
        refine (HC2.out _).mono ?_
        rintro e w5 ⟨rfl, hb5⟩
        have hB5 := hB4.trans (hb5.mono hB4.size)
        clear hb5 hB4 bP4 bQ4 hrP hrQ HC2
        go_wp2_with fail
        refine (H7.out _).mono ?_
        rintro e w6 ⟨rfl, hb6⟩
        have hB6 := hB5.trans (hb6.mono hB5.size)
        go_wp2
        go_ret
        exact ⟨rfl, hB6⟩
      | false =>
        clear HVs bP4 bQ4 hrP hrQ
        go_wp2_with fail
        refine (H7.out _).mono ?_
        rintro e w6 ⟨rfl, hb6⟩
        have hB6 := hB4.trans (hb6.mono hB4.size)
        go_wp2
        go_ret
        exact ⟨rfl, hB6⟩
    · clear HBel1
      have bQ := Blk.new w1 23 (pnA ⟨s, (a : Int) + 1⟩)
      have hB3 := hB1.alloc hB1.size (.cells (pnA ⟨s, (a : Int) + 1⟩) 23)
      have bP3 := bP1.alloc (.cells (pnA ⟨s, (a : Int) + 1⟩) 23)
      go_wp2_with (refine ldm_pn (s := ⟨s, a⟩) hr1 rfl _ rfl rfl ?_)
      refine (HVq.out _).mono ?_
      rintro e w4 ⟨rfl, hb4⟩
      have hB4 := hB3.trans (hb4.mono hB3.size)
      have bP4 := bP3.below hb4 bP3.lt
      have bQ4 := bQ.below hb4 bQ.lt
      have hrP := bP4.range
      have hrQ := bQ4.range
      clear hb4 hB3 bP3 bQ hB1 bP1 hr1 hbp HVq
      cases V with
      | true =>
        have HC2 := Lib.hid (HBel2.out (HVs.out rfl))
        clear HVs
        go_wp2_with (first | refine ldm_pn (s := ⟨s, a⟩) hrP rfl _ rfl rfl ?_ | refine ldm_pn (s := ⟨s, (a : Int) + 1⟩) hrQ rfl _ rfl rfl ?_)
        refine (HC2.out _).mono ?_
        rintro e w5 ⟨rfl, hb5⟩
        have hB5 := hB4.trans (hb5.mono hB4.size)
        clear hb5 hB4 bP4 bQ4 hrP hrQ HC2
        go_wp2_with fail
        refine (H7.out _).mono ?_
        rintro e w6 ⟨rfl, hb6⟩
        have hB6 := hB5.trans (hb6.mono hB5.size)
        go_wp2
        go_ret
        exact ⟨rfl, hB6⟩
      | false =>
        clear HVs bP4 bQ4 hrP hrQ
        go_wp2_with fail
        refine (H7.out _).mono ?_
        rintro e w6 ⟨rfl, hb6⟩
        have hB6 := hB4.trans (hb6.mono hB4.size)
        go_wp2
        go_ret
        exact ⟨rfl, hB6⟩
    · have HC1 := Lib.hid (HBel1.out hcl2)
      go_wp2_with (refine ldm_pn (s := ⟨s, a⟩) hr1 rfl _ rfl rfl ?_)
      refine (HC1.out _).mono ?_
      rintro e w2 ⟨rfl, hb2⟩
      have hB2 := hB1.trans (hb2.mono hB1.size)
      have bP2 := bP1.below hb2 bP1.lt
      have hr2 := bP2.range
      have hbp2 := bP2.lt
      clear hb2 hB1 bP1 q1 hr1 hbp HC1
      have bQ := Blk.new w2 23 (pnA ⟨s, (a : Int) + 1⟩)
      have hB3 := hB2.alloc hB2.size (.cells (pnA ⟨s, (a : Int) + 1⟩) 23)
      have bP3 := bP2.alloc (.cells (pnA ⟨s, (a : Int) + 1⟩) 23)
      go_wp2_with (refine ldm_pn (s := ⟨s, a⟩) hr2 rfl _ rfl rfl ?_)
      refine (HVq.out _).mono ?_
      rintro e w4 ⟨rfl, hb4⟩
      have hB4 := hB3.trans (hb4.mono hB3.size)
      have bP4 := bP3.below hb4 bP3.lt
      have bQ4 := bQ.below hb4 bQ.lt
      have hrP := bP4.range
      have hrQ := bQ4.range
      clear hb4 hB3 bP3 bQ hB2 bP2 hr2 hbp2 HVq
      cases V with
      | true =>
        have HC2 := Lib.hid (HBel2.out (HVs.out rfl))
        clear HVs
        go_wp2_with (first | refine ldm_pn (s := ⟨s, a⟩) hrP rfl _ rfl rfl ?_ | refine ldm_pn (s := ⟨s, (a : Int) + 1⟩) hrQ rfl _ rfl rfl ?_)
        refine (HC2.out _).mono ?_
        rintro e w5 ⟨rfl, hb5⟩
        have hB5 := hB4.trans (hb5.mono hB4.size)
        clear hb5 hB4 bP4 bQ4 hrP hrQ HC2
        go_wp2_with fail
        refine (H7.out _).mono ?_
        rintro e w6 ⟨rfl, hb6⟩
        have hB6 := hB5.trans (hb6.mono hB5.size)
        go_wp2
        go_ret
        exact ⟨rfl, hB6⟩
      | false =>
        clear HVs bP4 bQ4 hrP hrQ
        go_wp2_with fail
        refine (H7.out _).mono ?_
        rintro e w6 ⟨rfl, hb6⟩
        have hB6 := hB4.trans (hb6.mono hB4.size)
        go_wp2
        go_ret
        exact ⟨rfl, hB6⟩
    · clear HBel1
      have bQ := Blk.new w1 23 (pnA ⟨s, (a : Int) + 1⟩)
      have hB3 := hB1.alloc hB1.size (.cells (pnA ⟨s, (a : Int) + 1⟩) 23)
      have bP3 := bP1.alloc (.cells (pnA ⟨s, (a : Int) + 1⟩) 23)
      go_wp2_with (refine ldm_pn (s := ⟨s, a⟩) hr1 rfl _ rfl rfl ?_)
      refine (HVq.out _).mono ?_
      rintro e w4 ⟨rfl, hb4⟩
      have hB4 := hB3.trans (hb4.mono hB3.size)
      have bP4 := bP3.below hb4 bP3.lt
      have bQ4 := bQ.below hb4 bQ.lt
      have hrP := bP4.range
      have hrQ := bQ4.range
      clear hb4 hB3 bP3 bQ hB1 bP1 hr1 hbp HVq
      cases V with
      | true =>
        have HC2 := Lib.hid (HBel2.out (HVs.out rfl))
        clear HVs
        go_wp2_with (first | refine ldm_pn (s := ⟨s, a⟩) hrP rfl _ rfl rfl ?_ | refine ldm_pn (s := ⟨s, (a : Int) + 1⟩) hrQ rfl _ rfl rfl ?_)
        refine (HC2.out _).mono ?_
        rintro e w5 ⟨rfl, hb5⟩
        have hB5 := hB4.trans (hb5.mono hB4.size)
        clear hb5 hB4 bP4 bQ4 hrP hrQ HC2
        go_wp2_with fail
        refine (H7.out _).mono ?_
        rintro e w6 ⟨rfl, hb6⟩
        have hB6 := hB5.trans (hb6.mono hB5.size)
        go_wp2
        go_ret
        exact ⟨rfl, hB6⟩
      | false =>
        clear HVs bP4 bQ4 hrP hrQ
        go_wp2_with fail
        refine (H7.out _).mono ?_
        rintro e w6 ⟨rfl, hb6⟩
        have hB6 := hB4.trans (hb6.mono hB4.size)
        go_wp2
        go_ret
        exact ⟨rfl, hB6⟩
end Go.Proofs.Ytfkhlglagokodaa
