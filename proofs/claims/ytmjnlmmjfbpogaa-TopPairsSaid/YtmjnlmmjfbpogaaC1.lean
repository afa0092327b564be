/- CanPair, of the program and of the document; TempleValid. -/
import Derived.Test.YtmjnlmmjfbpogaaR1
import Derived.Test.YtmjnlmmjfbpogaaV7
namespace Go.Proofs.Ytmjnlmmjfbpogaa
open Go.RowKit Go.Shelf

/-- CanPair -/
def Pl.cpV (a b : Pl.Tm) (tol : Int) : Bool := if Pl.ck [a, b] tol = 0 then Pl.can a b tol else false
theorem vt_two {a b : Pl.Tm} {tol : Int} (h : Pl.ck [a, b] tol = 0) : Pl.Vt a ∧ Pl.Vt b ∧ 0 ≤ tol ∧ tol ≤ 1000 := by
  obtain ⟨h1, h2⟩ := Pl.ck_ok h
  have h3 := (Pl.vs_iff.1 h1).2.1
  exact ⟨h3 a (by simp), h3 b (by simp), h2⟩
theorem len_wrap {a b : Pl.Tm} (ha : Pl.Vt a) (hb : Pl.Vt b) : IntKind.i64.wrap (a.len - b.len) = a.len - b.len := IntWalk.i64_in _ (by have := ha.l1; have := ha.l2; have := hb.l1; have := hb.l2; omega)
abbrev twoA (a b : Pl.Tm) : Array Value := #[.int .i64 a.num, .int .i64 a.side, .int .i64 a.len, .int .i64 a.col, .int .i64 b.num, .int .i64 b.side, .int .i64 b.len, .int .i64 b.col]
theorem tms_two (w : World) (a b : Pl.Tm) : Tms (w.alloc (.cells (twoA a b) 24)) (some ⟨w.heap.size, 0, none⟩) [a, b] := by
  refine .inr ⟨w.heap.size, 0, rfl, by simp, fun k hk j v hj => ?_⟩
  rw [(Blk.new w 24 _).cell]
  match k, hk with
  | 0, _ =>
    match j, hj with
    | 0, hj => exact hj
    | 1, hj => exact hj
    | 2, hj => exact hj
    | 3, hj => exact hj
  | 1, _ =>
    match j, hj with
    | 0, hj => exact hj
    | 1, hj => exact hj
    | 2, hj => exact hj
    | 3, hj => exact hj


set_option maxRecDepth 100000 in
set_option maxHeartbeats 2000000 in
theorem CanPair_any (a b : Pl.Tm) (tol : Int) (w : World) :
    Calls Try.prog 16 #[.agg (tmA a), .agg (tmA b), .int .i64 tol] w fun e w' => e = .returned (.tuple #[.bool (Pl.cpV a b tol), .int .i64 (Pl.ck [a, b] tol)]) ∧ Below w.heap.size w w' := by
  have hB0 := ((Below.refl w.heap.size w).alloc (Nat.le_refl _) (.cells (tmA a) 24)).alloc (by simp) (.cells (tmA b) 24)
  have bA0 := (Blk.new w 24 (tmA a)).alloc (.cells (tmA b) 24)
  have bB0 := Blk.new (w.alloc (.cells (tmA a) 24)) 24 (tmA b)
  simp only [World.size_alloc] at bB0
  have hra := bA0.range
  have hrb := bB0.range
  have hT := tms_two ((w.alloc (.cells (tmA a) 24)).alloc (.cells (tmA b) 24)) a b
  simp only [World.size_alloc] at hT
  have HT := Lib.hid hT
  have hB := hB0.alloc hB0.size (.cells (twoA a b) 24)
  have bA := bA0.alloc (.cells (twoA a b) 24)
  have bB := bB0.alloc (.cells (twoA a b) 24)
  clear hT hB0 bA0 bB0
  obtain ⟨e, he⟩ : ∃ e, Pl.ck [a, b] tol = e := ⟨_, rfl⟩
  have HC := Lib.hid (fun (w' : World) (A : Option Addr) (hI : Tms w' A [a, b]) => checklist_b A [a, b] 2 tol e he w' hI)
  unfold Pl.cpV
  rw [he]
  by_cases h0 : e = 0
  · subst h0
    obtain ⟨va, vb, ht⟩ := vt_two he
    have HP := Lib.hid (canpair_b a b tol _ rfl (len_wrap va vb) (IntWalk.i64_in _ (by omega)))
    rw [if_pos rfl]
    clear he va vb ht
    generalize Pl.can a b tol = X at *
    go_enter Try.func16, Try.ntmps16
    go_wp2_with (first | refine ldm_tm hra rfl _ rfl rfl ?_ | refine ldm_tm hrb rfl _ rfl rfl ?_)
    refine (HC.out _ _ HT.out).mono ?_
    rintro e w1 ⟨rfl, hb1⟩
    have hB1 := hB.trans (hb1.mono hB.size)
    have hra1 := (bA.below hb1 bA.lt).range
    have hrb1 := (bB.below hb1 bB.lt).range
    clear hb1 bA bB hB hra hrb
    go_wp2_with (first | refine ldm_tm hra1 rfl _ rfl rfl ?_ | refine ldm_tm hrb1 rfl _ rfl rfl ?_)
    refine (HP.out _).mono ?_
    rintro e w2 ⟨rfl, hb2⟩
    go_wp2
    go_ret2
    exact ⟨rfl, hB1.trans (hb2.mono hB1.size)⟩
  · have h1 : (e != 0) = true := by simp [h0]
    rw [if_neg h0]
    clear h0 he
    go_enter Try.func16, Try.ntmps16
    go_wp2_with (first | refine ldm_tm hra rfl _ rfl rfl ?_ | refine ldm_tm hrb rfl _ rfl rfl ?_)
    refine (HC.out _ _ HT.out).mono ?_
    rintro e w1 ⟨rfl, hb1⟩
    have hB1 := hB.trans (hb1.mono hB.size)
    go_wp2
    go_ret2
    exact ⟨rfl, hB1⟩

set_option maxRecDepth 100000 in
set_option maxHeartbeats 2000000 in
theorem rCanPair_any (a b : Pl.Tm) (tol : Int) (w : World) :
    Calls Try.prog 17 #[.agg (tmA a), .agg (tmA b), .int .i64 tol] w fun e w' => e = .returned (.tuple #[.bool (Pl.cpV a b tol), .int .i64 (Pl.ck [a, b] tol)]) ∧ Below w.heap.size w w' := by
  have hB0 := ((Below.refl w.heap.size w).alloc (Nat.le_refl _) (.cells (tmA a) 24)).alloc (by simp) (.cells (tmA b) 24)
  have bA0 := (Blk.new w 24 (tmA a)).alloc (.cells (tmA b) 24)
  have bB0 := Blk.new (w.alloc (.cells (tmA a) 24)) 24 (tmA b)
  simp only [World.size_alloc] at bB0
  have hra := bA0.range
  have hrb := bB0.range
  have hT := tms_two ((w.alloc (.cells (tmA a) 24)).alloc (.cells (tmA b) 24)) a b
  simp only [World.size_alloc] at hT
  have HT := Lib.hid hT
  have hB := hB0.alloc hB0.size (.cells (twoA a b) 24)
  have bA := bA0.alloc (.cells (twoA a b) 24)
  have bB := bB0.alloc (.cells (twoA a b) 24)
  clear hT hB0 bA0 bB0
  obtain ⟨x1, hx1⟩ : ∃ x, Pl.vs [a, b] = x := ⟨_, rfl⟩
  have HC := Lib.hid (fun (w' : World) (A : Option Addr) (hI : Tms w' A [a, b]) => rvalid_any A [a, b] 2 w' hI)
  rw [hx1] at HC
  cases x1
  · have he : Pl.ck [a, b] tol = 40 := by unfold Pl.ck; rw [hx1]; rfl
    have HV : Hid (Pl.cpV a b tol = false) := Lib.hid (by unfold Pl.cpV; rw [if_neg (by rw [he]; decide)])
    rw [HV.out, he]
    clear he hx1
    go_enter Try.func17, Try.ntmps17
    go_wp2_with (first | refine ldm_tm hra rfl _ rfl rfl ?_ | refine ldm_tm hrb rfl _ rfl rfl ?_)
    refine (HC.out _ _ HT.out).mono ?_
    rintro e w1 ⟨rfl, hb1⟩
    have hB1 := hB.trans (hb1.mono hB.size)
    go_wp2
    go_ret2
    exact ⟨rfl, hB1⟩
  obtain ⟨x2, hx2⟩ : ∃ x, Pl.inB 0 tol 1000 = x := ⟨_, rfl⟩
  have HT2 := Lib.hid (rtol_b tol x2 hx2)
  cases x2
  · have he : Pl.ck [a, b] tol = 2 := by unfold Pl.ck; rw [hx1, hx2]; rfl
    have HV : Hid (Pl.cpV a b tol = false) := Lib.hid (by unfold Pl.cpV; rw [if_neg (by rw [he]; decide)])
    rw [HV.out, he]
    clear he hx1 hx2
    go_enter Try.func17, Try.ntmps17
    go_wp2_with (first | refine ldm_tm hra rfl _ rfl rfl ?_ | refine ldm_tm hrb rfl _ rfl rfl ?_)
    refine (HC.out _ _ HT.out).mono ?_
    rintro e w1 ⟨rfl, hb1⟩
    have hB1 := hB.trans (hb1.mono hB.size)
    go_wp2_with fail
    refine (HT2.out _).mono ?_
    rintro e w1 ⟨rfl, rfl⟩
    go_wp2
    go_ret2
    exact ⟨rfl, hB1⟩
  · have he : Pl.ck [a, b] tol = 0 := by unfold Pl.ck; rw [hx1, hx2]; rfl
    obtain ⟨va, vb, ht⟩ := vt_two he
    have HP := Lib.hid (rcan_b a b tol _ rfl (len_wrap va vb) (len_wrap vb va))
    have HV : Hid (Pl.cpV a b tol = Pl.can a b tol) := Lib.hid (by unfold Pl.cpV; rw [if_pos he])
    rw [HV.out, he]
    clear he hx1 hx2 va vb ht
    generalize Pl.can a b tol = X at *
    go_enter Try.func17, Try.ntmps17
    go_wp2_with (first | refine ldm_tm hra rfl _ rfl rfl ?_ | refine ldm_tm hrb rfl _ rfl rfl ?_)
    refine (HC.out _ _ HT.out).mono ?_
    rintro e w1 ⟨rfl, hb1⟩
    have hB1 := hB.trans (hb1.mono hB.size)
    have hra1 := (bA.below hb1 bA.lt).range
    have hrb1 := (bB.below hb1 bB.lt).range
    clear hb1 bA bB hB hra hrb
    go_wp2_with fail
    refine (HT2.out _).mono ?_
    rintro e w1 ⟨rfl, rfl⟩
    go_wp2_with (first | refine ldm_tm hra1 rfl _ rfl rfl ?_ | refine ldm_tm hrb1 rfl _ rfl rfl ?_)
    refine (HP.out _).mono ?_
    rintro e w2 ⟨rfl, hb2⟩
    go_wp2
    go_ret2
    exact ⟨rfl, hB1.trans (hb2.mono hB1.size)⟩

set_option maxHeartbeats 400000 in
theorem wide_b (A : Option Addr) (n c : Nat) (m : Int) (v : Bool) (hv : decide (m < (n : Int)) = v) (w : World) :
    Calls Try.prog 14 #[.slice A n c, .int .i64 m] w fun e w' => e = .returned (.bool v) ∧ w' = w := by
  have HV := Lib.hid hv.symm
  clear hv
  go_enter Try.func14, Try.ntmps14
  go_wp2
  go_ret
  exact ⟨by rw [HV.out]; rfl, rfl⟩
theorem tm_all (t : Pl.Tm) : (tmA t).all (·.oneCell') = true := by
  rw [Array.all_eq_true_iff_forall_mem]
  intro v hv
  simp [tmA] at hv
  rcases hv with rfl | rfl | rfl | rfl <;> rfl
abbrev z4 : Array Value := #[.int .i64 0, .int .i64 0, .int .i64 0, .int .i64 0]

set_option maxRecDepth 100000 in
set_option maxHeartbeats 8000000 in
theorem law_valid (A : Option Addr) (l : List Pl.Tm) (c : Nat) (a b : Pl.Tm) (tol : Int) (w : World) (hI : Tms w A l) :
    Calls Try.prog 3 #[.slice A l.length c, .agg (twoA a b), .int .i64 tol] w fun e w' => e = .returned (.bool true) ∧ Below w.heap.size w w' := by
  have HI := Lib.hid hI
  have HS := Lib.hid sane_any
  have HP := Lib.hid (CanPair_any a b tol)
  have HRP := Lib.hid (rCanPair_any a b tol)
  have HL := Lib.hid (fun (w' : World) (hI : Tms w' A l) => valid_any A l c w' hI)
  have HRL := Lib.hid (fun (w' : World) (hI : Tms w' A l) => rvalid_any A l c w' hI)
  generalize Pl.cpV a b tol = v1 at *
  generalize Pl.ck [a, b] tol = v2 at *
  generalize Pl.vs l = v3 at *
  generalize l.length = n at *
  clear hI
  have hB0 := (Below.refl w.heap.size w).alloc (Nat.le_refl _) (.cells (twoA a b) 25)
  have bW := Blk.new w 25 (twoA a b)
  go_enter Try.func3, Try.ntmps3
  go_wp2
  generalize w.alloc (.cells (twoA a b) 25) = wo at *
  refine Code.wp_mono (Q := fun e' a' w' => e' = .normal ∧ ∃ y13 y14 y15 y16 b7 b8, a' = { tmps := #[.slice A n c, .agg (twoA a b), .int .i64 tol, undef, .pointer (some ⟨w.heap.size, 0, none⟩), undef, .bool false, .pointer (some ⟨b7, 0, none⟩), .pointer (some ⟨b8, 0, none⟩), undef, undef, undef, undef, y13, y14, y15, y16, undef, undef, undef, undef, undef, undef, undef, undef, undef, undef, undef, undef, undef, undef, undef, undef, undef, undef, undef, undef, undef, undef, undef, undef, undef, undef, undef, undef, undef, undef, undef, undef, undef, undef, undef], defers := [] } ∧ Blk w' b7 24 (tmA a) ∧ Blk w' b8 24 (tmA b) ∧ Below wo.heap.size wo w') ?goon ?region
  case goon =>
    rintro _ _ w3 ⟨rfl, y13, y14, y15, y16, b7, b8, rfl, k7, k8, hB3⟩
    have hB4 := hB0.trans (hB3.mono hB0.size)
    have HI3 := Lib.hid (HI.out.below hB4)
    have r7 := k7.range
    have r8 := k8.range
    clear hB3 hB0 bW HI
    go_wp2_with fail
    by_cases hw : (70 : Int) < (n : Int)
    · have HW := Lib.hid (wide_b A n c 70 true (by simp [hw]))
      refine (HW.out _).mono ?_
      rintro e w3 ⟨rfl, rfl⟩
      go_wp2_with fail
      refine (HS.out _).mono ?_
      rintro e w4 ⟨rfl, hb⟩
      go_wp2
      go_ret
      exact ⟨rfl, hB4.trans (hb.mono hB4.size)⟩
    · have HW := Lib.hid (wide_b A n c 70 false (by simp [hw]))
      refine (HW.out _).mono ?_
      rintro e w3 ⟨rfl, rfl⟩
      go_wp2_with (first | refine ldm_tm r7 rfl _ rfl rfl ?_ | refine ldm_tm r8 rfl _ rfl rfl ?_)
      refine (HP.out _).mono ?_
      rintro e w4 ⟨rfl, hb⟩
      have hB5 := hB4.trans (hb.mono hB4.size)
      have HI4 := Lib.hid (HI3.out.below hb)
      have k7' := k7.below hb k7.lt
      have k8' := k8.below hb k8.lt
      have r7' := k7'.range
      have r8' := k8'.range
      clear hb hB4 r7 r8 k7 k8 HI3
      go_wp2_with (first | refine ldm_tm r7' rfl _ rfl rfl ?_ | refine ldm_tm r8' rfl _ rfl rfl ?_)
      refine (HRP.out _).mono ?_
      rintro e w5 ⟨rfl, hb⟩
      have hB6 := hB5.trans (hb.mono hB5.size)
      have HI5 := Lib.hid (HI4.out.below hb)
      clear hb hB5 r7' r8' k7' k8' HI4
      go_wp2_with fail
      refine (HL.out _ HI5.out).mono ?_
      rintro e w6 ⟨rfl, hb⟩
      have hB7 := hB6.trans (hb.mono hB6.size)
      have HI6 := Lib.hid (HI5.out.below hb)
      clear hb hB6 HI5
      go_wp2_with fail
      refine (HRL.out _ HI6.out).mono ?_
      rintro e w7 ⟨rfl, hb⟩
      have hB8 := hB7.trans (hb.mono hB7.size)
      clear hb hB7 HI6
      go_wp2_with fail
      refine (HS.out _).mono ?_
      rintro e w8 ⟨rfl, hb⟩
      go_wp2
      go_ret
      exact ⟨rfl, hB8.trans (hb.mono hB8.size)⟩
  case region =>
    clear HI HS HP HRP HL HRL hB0
    have HB : Hid (Below wo.heap.size wo wo.drew) := Lib.hid (Below.refl _ _).drew
    have hlt := bW.lt
    refine wp_region_held (S := fun W => Below wo.heap.size wo W) (by kernel_rfl) ?_
    change wpAnyH _ _ _ _ _ _ _ _ (World.drew _)
    refine wpAnyH_take (i := 0) (v := ?_) rfl (by kernel_rfl) (by decide +kernel) (by decide +kernel) (fun _ _ _ h => by cases h.1) (Or.inl ⟨by rfl, ?_⟩) HB.out ?_
    rotate_left
    · intro w' _; first | (go_simp; done) | (go_simp; with_reducible rfl)
    refine wpAnyH_take (i := 1) (v := ?_) rfl (by kernel_rfl) (by decide +kernel) (by decide +kernel) (fun _ _ _ h => by cases h.1) (Or.inl ⟨by rfl, ?_⟩) HB.out ?_
    rotate_left
    · intro w' hS; have bW' := bW.below hS hlt; have q0 := bW'.cell 0; have q1 := bW'.cell 1; have q2 := bW'.cell 2; have q3 := bW'.cell 3; first | (go_simp; done) | (go_simp; with_reducible rfl)
    refine wpAnyH_take (i := 2) (v := ?_) rfl (by kernel_rfl) (by decide +kernel) (by decide +kernel) (fun _ _ _ h => by cases h.1) (Or.inl ⟨by rfl, ?_⟩) HB.out ?_
    rotate_left
    · intro w' _; first | (go_simp; done) | (go_simp; with_reducible rfl)
    refine wpAnyH_take (i := 3) (v := ?_) rfl (by kernel_rfl) (by decide +kernel) (by decide +kernel) (fun _ _ _ h => by cases h.1) (Or.inl ⟨by rfl, ?_⟩) HB.out ?_
    rotate_left
    · intro w' hS; have bW' := bW.below hS hlt; have q0 := bW'.cell 4; have q1 := bW'.cell 5; have q2 := bW'.cell 6; have q3 := bW'.cell 7; first | (go_simp; done) | (go_simp; with_reducible rfl)
    have hBA := HB.out.alloc (Nat.le_refl _) (.cells #[.int .i64 0, .int .i64 0, .int .i64 0, .int .i64 0] 24)
    have hBB : Below wo.heap.size wo ((wo.alloc (.cells #[.int .i64 0, .int .i64 0, .int .i64 0, .int .i64 0] 24)).alloc (.cells #[.int .i64 0, .int .i64 0, .int .i64 0, .int .i64 0] 24)).drew := hBA.alloc hBA.size (.cells #[.int .i64 0, .int .i64 0, .int .i64 0, .int .i64 0] 24)
    have bA : Blk ((wo.alloc (.cells #[.int .i64 0, .int .i64 0, .int .i64 0, .int .i64 0] 24)).alloc (.cells #[.int .i64 0, .int .i64 0, .int .i64 0, .int .i64 0] 24)).drew wo.heap.size 24 z4 := ((Blk.new wo 24 z4).alloc _).drew
    have bB : Blk ((wo.alloc (.cells #[.int .i64 0, .int .i64 0, .int .i64 0, .int .i64 0] 24)).alloc (.cells #[.int .i64 0, .int .i64 0, .int .i64 0, .int .i64 0] 24)).drew (wo.heap.size + 1) 24 z4 := by
      have := Blk.new (wo.alloc (.cells #[.int .i64 0, .int .i64 0, .int .i64 0, .int .i64 0] 24)) 24 z4
      simp only [World.size_alloc] at this
      exact this.drew
    have HBB := Lib.hid hBB
    have HbA := Lib.hid bA
    have HbB := Lib.hid bB
    clear hBB bA bB bW
    refine wpAnyH_all (rs := [4, 5]) (by decide +kernel) (by simp) ?_
    intro i0 hi0
    simp only [List.mem_cons, List.not_mem_nil, or_false] at hi0
    rcases hi0 with rfl | rfl
    · refine wpOp_go rfl rfl (fun K hK => ?_)
      go_simp
      refine hK _ _ ⟨hBA, ?_⟩
      clear hK K
      refine wpAnyH_all (rs := [5]) (by decide +kernel) (by simp) ?_
      intro i0 hi0
      obtain rfl := List.mem_singleton.1 hi0
      refine wpOp_go rfl rfl (fun K hK => ?_)
      go_simp
      refine hK _ _ ⟨HBB.out, ?_⟩
      clear hK K
      have hBB := HBB.out
      have bX := HbA.out
      have bY := HbB.out
      generalize ((wo.alloc (.cells #[.int .i64 0, .int .i64 0, .int .i64 0, .int .i64 0] 24)).alloc (.cells #[.int .i64 0, .int .i64 0, .int .i64 0, .int .i64 0] 24)).drew = WB at *
      have hX : Only (wo.heap.size) WB (WB.setRow (wo.heap.size) (tmA a)) := Only.setRow _ _ _
      have hY : Only (wo.heap.size + 1) (WB.setRow (wo.heap.size) (tmA a)) ((WB.setRow (wo.heap.size) (tmA a)).setRow (wo.heap.size + 1) (tmA b)) := Only.setRow _ _ _
      have bY1 : Blk _ _ _ _ := (hX.block (wo.heap.size + 1) (by omega)).trans bY
      have bX1 : Blk (WB.setRow (wo.heap.size) (tmA a)) (wo.heap.size) 24 (tmA a) := setRow_same bX
      have bX2 : Blk _ _ _ _ := (hY.block (wo.heap.size) (by omega)).trans bX1
      have bY2 : Blk ((WB.setRow (wo.heap.size) (tmA a)).setRow (wo.heap.size + 1) (tmA b)) (wo.heap.size + 1) 24 (tmA b) := setRow_same bY1
      have hB1 := hBB.trans (hX.below (by omega))
      have hB2 := hB1.trans (hY.below (by omega))
      refine wpAnyH_all (rs := [6]) (by decide +kernel) (by simp) ?_
      intro i0 hi0
      obtain rfl := List.mem_singleton.1 hi0
      refine wpOp_go rfl rfl (fun K hK => ?_)
      refine wp_store_row 24 (.tmp 7) (.tmp 14) rfl (wo.heap.size) (tmA a) rfl rfl 24 z4 bX info24 rfl (tm_all _) (hK _ _ ⟨hB1, ?_⟩)
      clear hK K
      refine wpAnyH_all (rs := [7]) (by decide +kernel) (by simp) ?_
      intro i0 hi0
      obtain rfl := List.mem_singleton.1 hi0
      refine wpOp_go rfl rfl (fun K hK => ?_)
      refine wp_store_row 24 (.tmp 8) (.tmp 16) rfl (wo.heap.size + 1) (tmA b) rfl rfl 24 z4 bY1 info24 rfl (tm_all _) (hK _ _ ⟨hB2, ?_⟩)
      clear hK K
      refine wpAnyH_done (by decide +kernel) ?_ _
      exact ⟨rfl, _, _, _, _, _, _, rfl, bX2, bY2, hB2⟩
    · refine wpOp_go rfl rfl (fun K hK => ?_)
      go_simp
      refine hK _ _ ⟨hBA, ?_⟩
      clear hK K
      refine wpAnyH_all (rs := [4]) (by decide +kernel) (by simp) ?_
      intro i0 hi0
      obtain rfl := List.mem_singleton.1 hi0
      refine wpOp_go rfl rfl (fun K hK => ?_)
      go_simp
      refine hK _ _ ⟨HBB.out, ?_⟩
      clear hK K
      have hBB := HBB.out
      have bX := HbB.out
      have bY := HbA.out
      generalize ((wo.alloc (.cells #[.int .i64 0, .int .i64 0, .int .i64 0, .int .i64 0] 24)).alloc (.cells #[.int .i64 0, .int .i64 0, .int .i64 0, .int .i64 0] 24)).drew = WB at *
      have hX : Only (wo.heap.size + 1) WB (WB.setRow (wo.heap.size + 1) (tmA a)) := Only.setRow _ _ _
      have hY : Only (wo.heap.size) (WB.setRow (wo.heap.size + 1) (tmA a)) ((WB.setRow (wo.heap.size + 1) (tmA a)).setRow (wo.heap.size) (tmA b)) := Only.setRow _ _ _
      have bY1 : Blk _ _ _ _ := (hX.block (wo.heap.size) (by omega)).trans bY
      have bX1 : Blk (WB.setRow (wo.heap.size + 1) (tmA a)) (wo.heap.size + 1) 24 (tmA a) := setRow_same bX
      have bX2 : Blk _ _ _ _ := (hY.block (wo.heap.size + 1) (by omega)).trans bX1
      have bY2 : Blk ((WB.setRow (wo.heap.size + 1) (tmA a)).setRow (wo.heap.size) (tmA b)) (wo.heap.size) 24 (tmA b) := setRow_same bY1
      have hB1 := hBB.trans (hX.below (by omega))
      have hB2 := hB1.trans (hY.below (by omega))
      refine wpAnyH_all (rs := [6]) (by decide +kernel) (by simp) ?_
      intro i0 hi0
      obtain rfl := List.mem_singleton.1 hi0
      refine wpOp_go rfl rfl (fun K hK => ?_)
      refine wp_store_row 24 (.tmp 7) (.tmp 14) rfl (wo.heap.size + 1) (tmA a) rfl rfl 24 z4 bX info24 rfl (tm_all _) (hK _ _ ⟨hB1, ?_⟩)
      clear hK K
      refine wpAnyH_all (rs := [7]) (by decide +kernel) (by simp) ?_
      intro i0 hi0
      obtain rfl := List.mem_singleton.1 hi0
      refine wpOp_go rfl rfl (fun K hK => ?_)
      refine wp_store_row 24 (.tmp 8) (.tmp 16) rfl (wo.heap.size) (tmA b) rfl rfl 24 z4 bY1 info24 rfl (tm_all _) (hK _ _ ⟨hB2, ?_⟩)
      clear hK K
      refine wpAnyH_done (by decide +kernel) ?_ _
      exact ⟨rfl, _, _, _, _, _, _, rfl, bX2, bY2, hB2⟩
end Go.Proofs.Ytmjnlmmjfbpogaa
