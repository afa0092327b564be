/- Merged: R9 R10. -/
import Derived.Test.YtlikmlhlfbdchaaRZ
import Derived.Test.YtlikmlhlfbdchaaBZ
/- nest: bounds of a part, both sides; layouts that are the same. -/
namespace Go.Proofs.Ytlikmlhlfbdchaa
open Go.RowKit Go.Shelf
namespace Ne
theorem fan_pos {l : List Geo.XY} (h : Valid l) : ∀ k, k + 2 ≤ l.length → 0 ≤ Geo.fanK l k ∧ (0 < k → 0 < Geo.fanK l k)
  | 0, _ => ⟨by unfold Geo.fanK; omega, fun h => by omega⟩
  | k + 1, hk => by
    have ih := (fan_pos h k (by omega)).1
    have h3 := h.1
    have hc := h.2.2.2 (k + 1) (by omega) 0 (by omega) (by omega) (by rw [Nat.mod_eq_of_lt (by omega)]; omega)
    rw [Geo.At_lt _ (by omega), Geo.At_lt _ (by omega), Geo.At_lt _ (by omega)] at hc
    have e : Geo.Cross (Geo.X l 0) (Geo.X l (k + 1)) (Geo.X l (k + 2)) = Geo.Cross (Geo.X l (k + 1)) (Geo.X l (k + 2)) (Geo.X l 0) := by unfold Geo.Cross; grind
    have e2 : Geo.fanK l (k + 1) = Geo.fanK l k + Geo.Cross (Geo.X l 0) (Geo.X l (k + 1)) (Geo.X l (k + 2)) := rfl
    rw [e2, e]
    have hc' : 0 < Geo.Cross (Geo.X l (k + 1)) (Geo.X l (k + 2)) (Geo.X l 0) := hc
    exact ⟨by omega, fun _ => by omega⟩
theorem area_pos {l : List Geo.XY} (h : Valid l) : 0 < Geo.areaK l l.length := by
  have h3 := h.1
  rw [Geo.area_fan l (by omega)]
  exact (fan_pos h (l.length - 2) (by omega)).2 (by omega)
/-- the bound of a part -/
noncomputable def bdV (b : Bo) (l : List Pa) (i : Int) : Int := if cpE b l i = 0 then (2 * b.w * b.h).tdiv (Geo.areaK (l.getD i.toNat za).o (l.getD i.toNat za).o.length) else 0
end Ne
set_option maxHeartbeats 1000000 in
theorem area2_b (b : Ne.Bo) (A : Option Addr) (n c : Nat) (h1 : 1 ≤ b.w ∧ b.w ≤ 60000) (h2 : 1 ≤ b.h ∧ b.h ≤ 60000) (M : Int) (hM : 2 * b.w * b.h = M) (w : World) :
    Calls Try.prog 68 #[.agg (boW b A n c)] w fun e w' => e = .returned (.int .i64 M) ∧ Below w.heap.size w w' := by
  have hB := (Below.refl w.heap.size w).alloc (Nat.le_refl _) (.cells (boW b A n c) 33)
  have bB := Blk.new w 33 (boW b A n c)
  have q0 := bB.cell 0
  have q1 := bB.cell 1
  simp only [List.getElem?_toArray, List.getElem?_cons_zero, List.getElem?_cons_succ] at q0 q1
  obtain ⟨m1, m2⟩ := mul_bd (a := 2 * b.w) (b := b.h) (A := 120000) (B := 60000) (by omega) (by omega) (by omega) (by omega)
  obtain ⟨h1, h3⟩ := h1
  rw [hM] at m1 m2
  have hwr : IntKind.i64.wrap (2 * b.w * b.h) = M := by rw [hM]; exact IntWalk.i64_in _ (by omega)
  clear bB
  go_enter Try.func68, Try.ntmps68
  go_wp2
  go_ret
  exact ⟨by rfl, hB⟩
set_option maxHeartbeats 1000000 in
theorem partarea_b (q : Ne.Pa) (A : Option Addr) (n c : Nat) (hn : q.o.length = n) (hv : validB q.o = true) (M : Int) (hM : Geo.areaK q.o q.o.length = M) (w : World) (hP : Pts w A q.o) :
    Calls Try.prog 69 #[.agg #[.slice A n c, .bool q.t]] w fun e w' => e = .returned (.int .i64 M) ∧ Below w.heap.size w w' := by
  have hB := (Below.refl w.heap.size w).alloc (Nat.le_refl _) (.cells #[.slice A n c, .bool q.t] 68)
  have bB := Blk.new w 68 #[.slice A n c, .bool q.t]
  have q0 := bB.cell 0
  simp only [List.getElem?_toArray, List.getElem?_cons_zero] at q0
  have HA : Hid (∀ W, Pts W A q.o → Calls Try.prog 103 #[.slice A n c] W fun e w' => e = .returned (.tuple #[.int .i64 M, .int .i64 0]) ∧ Below W.heap.size W w') := Lib.hid (fun W h => by
    have H := area_any A q.o c W h
    rw [okOr_yes hv, hM, hn] at H
    exact H)
  have HP := Lib.hid (hP.below hB)
  clear hP bB hM hn hv
  go_enter Try.func69, Try.ntmps69
  go_wp2_with fail
  refine (HA.out _ HP.out).mono ?_
  rintro e w1 ⟨rfl, b1⟩
  go_wp2
  go_ret
  exact ⟨rfl, hB.trans (b1.mono hB.size)⟩

set_option maxRecDepth 100000 in
set_option maxHeartbeats 4000000 in
theorem Bound_b (b : Ne.Bo) (A B : Option Addr) (l : List Ne.Pa) (n c m c' : Nat) (i : Int) (hn : b.fs.length = n) (hm : l.length = m) (E : Int) (hE : Ne.cpE b l i = E) (R : Int) (hR : Ne.bdV b l i = R)
    (w : World) (hF : Rows Ne.rcL 4 w A b.fs) (hP : Ne.PaM w B l) :
    Calls Try.prog 36 #[.agg (boW b A n c), .slice B m c', .int .i64 i] w fun e w' => e = .returned (.tuple #[.int .i64 R, .int .i64 E]) ∧ Below w.heap.size w w' := by
  have hB0 := (Below.refl w.heap.size w).alloc (Nat.le_refl _) (.cells (boW b A n c) 33)
  have bB := Blk.new w 33 (boW b A n c)
  have HC := Lib.hid (fun W h h' => checkpart_b b A B c n c' m l hn hm i E hE W h h')
  have hrg := bB.range
  have HF := Lib.hid hF
  have HP := Lib.hid hP
  clear hF hP
  by_cases h0 : E = 0
  · subst h0
    obtain ⟨hvb, hvp, q, rfl, hq⟩ := Ne.cpE_ok hE
    have hvq := Ne.vPa_at hvp hq
    have hval := valid_of hvq
    have hvi := Ne.vBo_in hvb
    unfold Ne.bdV at hR
    rw [hE, if_pos rfl] at hR
    obtain ⟨N, hN⟩ : ∃ N, (l.getD q Ne.za).o.length = N := ⟨_, rfl⟩
    obtain ⟨M, hM⟩ : ∃ M, 2 * b.w * b.h = M := ⟨_, rfl⟩
    obtain ⟨K, hK⟩ : ∃ K, Geo.areaK (l.getD q Ne.za).o (l.getD q Ne.za).o.length = K := ⟨_, rfl⟩
    have hK0 := Ne.area_pos hval
    rw [hK] at hK0
    obtain ⟨m1, m2⟩ := mul_bd (a := 2 * b.w) (b := b.h) (A := 120000) (B := 60000) (by omega) (by omega) (by omega) (by omega)
    have m3 : 0 ≤ 2 * b.w * b.h := Int.mul_nonneg (by omega) (by omega)
    rw [hM] at m1 m2 m3
    have hR' : M.tdiv K = R := by rw [← hR, ← hM, ← hK]; simp
    have q1 : 0 ≤ M.tdiv K := Int.tdiv_nonneg m3 (by omega)
    have q2 : M.tdiv K ≤ M := Int.tdiv_le_self _ m3
    have q3 : ¬ K = 0 := by omega
    have hqw : IntKind.i64.wrap (M.tdiv K) = R := by rw [← hR']; exact IntWalk.i64_in _ (by omega)
    have hwr : IntKind.i64.wrap (2 * b.w * b.h) = M := by rw [hM]; exact IntWalk.i64_in _ (by omega)
    rw [hR'] at q1 q2
    obtain ⟨⟨bw1, bw2⟩, ⟨bh1, bh2⟩, _, _, _⟩ := hvi
    have h3 := hval.1
    have h64 := hval.2.1
    rw [hN] at h3 h64
    have HM := Lib.hid hm
    have HN := Lib.hid hN
    have hqm : (q : Int) < (m : Int) := by omega
    have hge : decide ((m : Int) ≤ (q : Int)) = false := by simp; omega
    obtain ⟨gP, off, hBe, hgP, hcP⟩ := HP.out.open (by rw [HM.out]; omega)
    obtain ⟨D, dc, d1, d2, d3, d4⟩ := hcP q (by rw [HM.out]; omega)
    rw [HN.out] at d1 d4
    obtain ⟨tt, htt⟩ : ∃ tt, (l.getD q Ne.za).t = tt := ⟨_, rfl⟩
    rw [htt] at d2
    have HD3 := Lib.hid d3
    clear d3
    have HTW : Hid (∀ W, Pts W D (l.getD q Ne.za).o → Calls Try.prog 69 #[.agg #[.slice D N dc, .bool tt]] W fun e w' => e = .returned (.int .i64 K) ∧ Below W.heap.size W w') := Lib.hid (fun W hW => by
      have H := partarea_b (l.getD q Ne.za) D N dc hN hvq K hK W hW
      rw [htt] at H
      exact H)
    have HAR := Lib.hid (fun W => area2_b b A n c ⟨bw1, bw2⟩ ⟨bh1, bh2⟩ M hM W)
    clear hcP htt
    subst hBe
    clear hE hvb hvp hvq hN hn hm hR hR' hval hK hK0
    go_enter Try.func36, Try.ntmps36
    go_wp2_with (refine ldm_bo hrg (by rfl) _ rfl rfl (Hid.out ?_))
    refine Lib.hid ?_
    go_wp2_with fail
    refine (HC.out _ (HF.out.below hB0) (HP.out.below hB0)).mono ?_
    rintro e w4 ⟨rfl, hb1⟩
    have bB1 := bB.below hb1 bB.lt
    have hB1 := hB0.trans (hb1.mono hB0.size)
    have dd1 : w4.cell? ⟨gP, off + q * 2, none⟩ = some (.slice D N dc) := (hB1.cell (p := ⟨gP, off + q * 2, none⟩) hgP).trans d1
    have dd2 : w4.cell? ⟨gP, off + q * 2 + 1, none⟩ = some (.bool tt) := (hB1.cell (p := ⟨gP, off + q * 2 + 1, none⟩) hgP).trans d2
    have HDB := Lib.hid (HD3.out.below hB1)
    clear bB hrg hB0 hb1 d1 d2
    have p0 : ∀ s : Ext w4, s.w.cell? ⟨w.heap.size, 0, none⟩ = some (.int .i64 b.w) := fun s => s.cell (bB1.cell 0)
    have p1 : ∀ s : Ext w4, s.w.cell? ⟨w.heap.size, 1, none⟩ = some (.int .i64 b.h) := fun s => s.cell (bB1.cell 1)
    have p2 : ∀ s : Ext w4, s.w.cell? ⟨w.heap.size, 2, none⟩ = some (.int .i64 b.g) := fun s => s.cell (bB1.cell 2)
    have p3 : ∀ s : Ext w4, s.w.cell? ⟨w.heap.size, 3, none⟩ = some (.slice A n c) := fun s => s.cell (bB1.cell 3)
    have p4 : ∀ s : Ext w4, s.w.cell? ⟨gP, off + q * 2, none⟩ = some (.slice D N dc) := fun s => s.cell dd1
    have p5 : ∀ s : Ext w4, s.w.cell? ⟨gP, off + q * 2 + 1, none⟩ = some (.bool tt) := fun s => s.cell dd2
    have HTE : Hid (∀ s : Ext w4, Pts s.w D (l.getD q Ne.za).o) := Lib.hid (fun s => HDB.out.below s.h)
    clear dd1 dd2 bB1
    go_wp2
    refine wp_region_ext (by kernel_rfl) (by kernel_rfl) ?_
    iterate 2 (go_big_quiet_step ((go_at_call 68; refine calls_ext (HAR.out _))))
    repeat (go_big_quiet_step ((go_at_call 69; refine calls_ext (HTW.out _ (HTE.out _)))))
    refine wpQuiet_nil ?_
    rintro _ ⟨s, rfl⟩
    go_wp2
    go_ret2
    exact ⟨rfl, hB1.trans (s.h.mono hB1.size)⟩
  · have hne : (E == 0) = false := by simp; exact h0
    have HRR : Hid (R = 0) := Lib.hid (by rw [← hR]; unfold Ne.bdV; rw [hE, if_neg h0])
    clear hE hR
    go_enter Try.func36, Try.ntmps36
    go_wp2_with (refine ldm_bo hrg (by rfl) _ rfl rfl (Hid.out ?_))
    refine Lib.hid ?_
    go_wp2_with fail
    refine (HC.out _ (HF.out.below hB0) (HP.out.below hB0)).mono ?_
    rintro e w1 ⟨rfl, hb1⟩
    have hB1 := hB0.trans (hb1.mono hB0.size)
    go_wp2
    go_ret2
    exact ⟨by rw [HRR.out]; rfl, hB1⟩

set_option maxRecDepth 100000 in
set_option maxHeartbeats 4000000 in
theorem rBound_b (b : Ne.Bo) (A B : Option Addr) (l : List Ne.Pa) (n c m c' : Nat) (i : Int) (hn : b.fs.length = n) (hm : l.length = m) (hnM : n ≤ maxLen) (hmM : m ≤ maxLen) (E : Int) (hE : Ne.cpE b l i = E) (R : Int) (hR : Ne.bdV b l i = R)
    (w : World) (hF : Rows Ne.rcL 4 w A b.fs) (hP : Ne.PaM w B l) :
    Calls Try.prog 37 #[.agg (boW b A n c), .slice B m c', .int .i64 i] w fun e w' => e = .returned (.tuple #[.int .i64 R, .int .i64 E]) ∧ Below w.heap.size w w' := by
  have hB0 := (Below.refl w.heap.size w).alloc (Nat.le_refl _) (.cells (boW b A n c) 33)
  have bB := Blk.new w 33 (boW b A n c)
  obtain ⟨x, hx⟩ : ∃ x, Ne.vAll b l = x := ⟨_, rfl⟩
  have HC := Lib.hid (fun W h h' => rValid_b b A B c n c' m l hn hm hnM hmM x hx W h h')
  have hrg := bB.range
  have HF := Lib.hid hF
  have HP := Lib.hid hP
  clear hF hP
  by_cases h0 : E = 0
  · subst h0
    obtain ⟨hvb, hvp, q, rfl, hq⟩ := Ne.cpE_ok hE
    have hx1 : x = true := by rw [← hx]; unfold Ne.vAll; rw [hvb, hvp]; rfl
    subst hx1
    have hvq := Ne.vPa_at hvp hq
    have hval := valid_of hvq
    have hvi := Ne.vBo_in hvb
    unfold Ne.bdV at hR
    rw [hE, if_pos rfl] at hR
    obtain ⟨N, hN⟩ : ∃ N, (l.getD q Ne.za).o.length = N := ⟨_, rfl⟩
    obtain ⟨M, hM⟩ : ∃ M, 2 * b.w * b.h = M := ⟨_, rfl⟩
    obtain ⟨K, hK⟩ : ∃ K, Geo.areaK (l.getD q Ne.za).o (l.getD q Ne.za).o.length = K := ⟨_, rfl⟩
    have hK0 := Ne.area_pos hval
    rw [hK] at hK0
    obtain ⟨m1, m2⟩ := mul_bd (a := 2 * b.w) (b := b.h) (A := 120000) (B := 60000) (by omega) (by omega) (by omega) (by omega)
    have m3 : 0 ≤ 2 * b.w * b.h := Int.mul_nonneg (by omega) (by omega)
    rw [hM] at m1 m2 m3
    have hR' : M.tdiv K = R := by rw [← hR, ← hM, ← hK]; simp
    have q1 : 0 ≤ M.tdiv K := Int.tdiv_nonneg m3 (by omega)
    have q2 : M.tdiv K ≤ M := Int.tdiv_le_self _ m3
    have q3 : ¬ K = 0 := by omega
    have hqw : IntKind.i64.wrap (M.tdiv K) = R := by rw [← hR']; exact IntWalk.i64_in _ (by omega)
    have hwr : IntKind.i64.wrap (2 * b.w * b.h) = M := by rw [hM]; exact IntWalk.i64_in _ (by omega)
    rw [hR'] at q1 q2
    obtain ⟨⟨bw1, bw2⟩, ⟨bh1, bh2⟩, _, _, _⟩ := hvi
    have h3 := hval.1
    have h64 := hval.2.1
    rw [hN] at h3 h64
    have HM := Lib.hid hm
    have HN := Lib.hid hN
    have hqm : (q : Int) < (m : Int) := by omega
    have hge : decide ((m : Int) ≤ (q : Int)) = false := by simp; omega
    obtain ⟨gP, off, hBe, hgP, hcP⟩ := HP.out.open (by rw [HM.out]; omega)
    obtain ⟨D, dc, d1, d2, d3, d4⟩ := hcP q (by rw [HM.out]; omega)
    rw [HN.out] at d1 d4
    obtain ⟨tt, htt⟩ : ∃ tt, (l.getD q Ne.za).t = tt := ⟨_, rfl⟩
    rw [htt] at d2
    have HD3 := Lib.hid d3
    clear d3
    have HTW : Hid (∀ W, Pts W D (l.getD q Ne.za).o → Calls Try.prog 70 #[.slice D N dc] W fun e w' => e = .returned (.int .i64 K) ∧ Below W.heap.size W w') := Lib.hid (fun W hW => by
      obtain ⟨b3, off3, rfl, hb3, hc3⟩ := pts_open hW (by omega)
      have H := twice_any b3 off3 dc (l.getD q Ne.za).o (by omega) (by omega) hval.allin W hb3 hc3
      rw [hK, hN] at H
      exact H)
    clear hcP htt
    subst hBe
    clear hE hvb hvp hvq hN hn hm hR hR' hval hK hK0 hx
    go_enter Try.func37, Try.ntmps37
    go_wp2_with (refine ldm_bo hrg (by rfl) _ rfl rfl (Hid.out ?_))
    refine Lib.hid ?_
    go_wp2_with fail
    refine (HC.out _ (HF.out.below hB0) (HP.out.below hB0)).mono ?_
    rintro e w4 ⟨rfl, hb1⟩
    have bB1 := bB.below hb1 bB.lt
    have hB1 := hB0.trans (hb1.mono hB0.size)
    have dd1 : w4.cell? ⟨gP, off + q * 2, none⟩ = some (.slice D N dc) := (hB1.cell (p := ⟨gP, off + q * 2, none⟩) hgP).trans d1
    have dd2 : w4.cell? ⟨gP, off + q * 2 + 1, none⟩ = some (.bool tt) := (hB1.cell (p := ⟨gP, off + q * 2 + 1, none⟩) hgP).trans d2
    have HDB := Lib.hid (HD3.out.below hB1)
    clear bB hrg hB0 hb1 d1 d2
    have p0 : ∀ s : Ext w4, s.w.cell? ⟨w.heap.size, 0, none⟩ = some (.int .i64 b.w) := fun s => s.cell (bB1.cell 0)
    have p1 : ∀ s : Ext w4, s.w.cell? ⟨w.heap.size, 1, none⟩ = some (.int .i64 b.h) := fun s => s.cell (bB1.cell 1)
    have p2 : ∀ s : Ext w4, s.w.cell? ⟨w.heap.size, 2, none⟩ = some (.int .i64 b.g) := fun s => s.cell (bB1.cell 2)
    have p3 : ∀ s : Ext w4, s.w.cell? ⟨w.heap.size, 3, none⟩ = some (.slice A n c) := fun s => s.cell (bB1.cell 3)
    have p4 : ∀ s : Ext w4, s.w.cell? ⟨gP, off + q * 2, none⟩ = some (.slice D N dc) := fun s => s.cell dd1
    have p5 : ∀ s : Ext w4, s.w.cell? ⟨gP, off + q * 2 + 1, none⟩ = some (.bool tt) := fun s => s.cell dd2
    have HTE : Hid (∀ s : Ext w4, Pts s.w D (l.getD q Ne.za).o) := Lib.hid (fun s => HDB.out.below s.h)
    clear dd1 dd2 bB1
    go_wp2
    refine wp_region_ext (by kernel_rfl) (by kernel_rfl) ?_
    repeat (go_big_quiet_step ((go_at_call 70; refine calls_ext (HTW.out _ (HTE.out _)))))
    refine wpQuiet_nil ?_
    rintro _ ⟨s, rfl⟩
    go_wp2
    go_ret2
    exact ⟨rfl, hB1.trans (s.h.mono hB1.size)⟩
  · have HRR : Hid (R = 0) := Lib.hid (by rw [← hR]; unfold Ne.bdV; rw [hE, if_neg h0])
    cases x with
    | false =>
      have HEE : Hid (E = 70) := Lib.hid (by rw [← hE]; unfold Ne.cpE; rw [hx]; rfl)
      clear hE hR hx
      go_enter Try.func37, Try.ntmps37
      go_wp2_with (refine ldm_bo hrg (by rfl) _ rfl rfl (Hid.out ?_))
      refine Lib.hid ?_
      go_wp2_with fail
      refine (HC.out _ (HF.out.below hB0) (HP.out.below hB0)).mono ?_
      rintro e w1 ⟨rfl, hb1⟩
      have hB1 := hB0.trans (hb1.mono hB0.size)
      go_wp2
      go_ret2
      exact ⟨by rw [HEE.out, HRR.out]; rfl, hB1⟩
    | true =>
      have hix : Ne.ix l i = false := by
        cases e : Ne.ix l i with
        | false => rfl
        | true =>
          exfalso; apply h0
          rw [← hE]; unfold Ne.cpE; rw [hx, e]; rfl
      have HEE : Hid (E = 2) := Lib.hid (by rw [← hE]; unfold Ne.cpE; rw [hx, hix]; rfl)
      unfold Ne.ix at hix
      rw [hm] at hix
      have hix2 := of_decide_eq_false hix
      clear hE hR hx hix
      by_cases hi0 : i < 0
      · have e0 : decide (i < 0) = true := by simp; omega
        go_enter Try.func37, Try.ntmps37
        go_wp2_with (refine ldm_bo hrg (by rfl) _ rfl rfl (Hid.out ?_))
        refine Lib.hid ?_
        go_wp2_with fail
        refine (HC.out _ (HF.out.below hB0) (HP.out.below hB0)).mono ?_
        rintro e w1 ⟨rfl, hb1⟩
        have hB1 := hB0.trans (hb1.mono hB0.size)
        go_wp2
        go_ret2
        exact ⟨by rw [HEE.out, HRR.out]; rfl, hB1⟩
      · have e0 : decide (i < 0) = false := by simp; omega
        have e1 : decide ((m : Int) ≤ i) = true := by simp; omega
        go_enter Try.func37, Try.ntmps37
        go_wp2_with (refine ldm_bo hrg (by rfl) _ rfl rfl (Hid.out ?_))
        refine Lib.hid ?_
        go_wp2_with fail
        refine (HC.out _ (HF.out.below hB0) (HP.out.below hB0)).mono ?_
        rintro e w1 ⟨rfl, hb1⟩
        have hB1 := hB0.trans (hb1.mono hB0.size)
        go_wp2
        go_ret2
        exact ⟨by rw [HEE.out, HRR.out]; rfl, hB1⟩

end Go.Proofs.Ytlikmlhlfbdchaa
/- nest: layouts that are the same; the law of rows. -/
namespace Go.Proofs.Ytlikmlhlfbdchaa
open Go.RowKit Go.Shelf
set_option maxRecDepth 100000 in
set_option maxHeartbeats 2000000 in
theorem same_pl (A B : Option Addr) (l : List Ne.Pc) (n c c' : Nat) (hn : l.length = n) (h : n ≤ 100000) (w : World) (hA : Rows Ne.pcL 4 w A l) (hB : Rows Ne.pcL 4 w B l) :
    Calls Try.prog 35 #[.slice A n c, .slice B n c'] w fun e w' => e = .returned (.bool true) ∧ Below w.heap.size w w' := by
  have HA := Lib.hid hA
  have HB := Lib.hid hB
  have HN := Lib.hid hn
  have hne : ((n : Int) == (n : Int)) = true := by simp
  clear hA hB hn
  go_enter Try.func35, Try.ntmps35
  go_wp2
  clear hne
  go_loopw [13] (fun i wr => ∃ k : Nat, k ≤ n ∧ i = .int .i64 k ∧ Below w.heap.size w wr) (fun i _ => n - (intOf i).toNat)
  case atStart => exact ⟨0, Nat.zero_le _, rfl, Below.refl _ _⟩
  case round =>
    obtain ⟨k, hk, rfl, hb⟩ := hrel
    by_cases hlt : k < n
    · obtain ⟨g, off, rfl, hg, hc⟩ := (HA.out.below hb).at (z := Ne.zc) (by rw [HN.out]; omega)
      obtain ⟨g2, off2, rfl, hg2, hc2⟩ := (HB.out.below hb).at (z := Ne.zc) (by rw [HN.out]; omega)
      have hck := hc k (by rw [HN.out]; exact hlt)
      have hck2 := hc2 k (by rw [HN.out]; exact hlt)
      obtain ⟨p, hp⟩ : ∃ p, l.getD k Ne.zc = p := ⟨_, rfl⟩
      rw [hp] at hck hck2
      have hq : ∀ W, (Op.equalIn 10000 40 (.agg (Ne.pcL p).toArray) (.agg (Ne.pcL p).toArray)).run Try.prog W = .ok true W := fun W => run_eqPc p p true (by simp) W
      have c0 : wr.cell? ⟨g, off + k * 4, none⟩ = some (.int .i64 p.p) := hck 0 _ rfl
      have c1 : wr.cell? ⟨g, off + k * 4 + 1, none⟩ = some (.int .i64 p.x) := hck 1 _ rfl
      have c2 : wr.cell? ⟨g, off + k * 4 + 2, none⟩ = some (.int .i64 p.y) := hck 2 _ rfl
      have c3 : wr.cell? ⟨g, off + k * 4 + 3, none⟩ = some (.bool p.t) := hck 3 _ rfl
      have e0 : wr.cell? ⟨g2, off2 + k * 4, none⟩ = some (.int .i64 p.p) := hck2 0 _ rfl
      have e1 : wr.cell? ⟨g2, off2 + k * 4 + 1, none⟩ = some (.int .i64 p.x) := hck2 1 _ rfl
      have e2 : wr.cell? ⟨g2, off2 + k * 4 + 2, none⟩ = some (.int .i64 p.y) := hck2 2 _ rfl
      have e3 : wr.cell? ⟨g2, off2 + k * 4 + 3, none⟩ = some (.bool p.t) := hck2 3 _ rfl
      have hlm : (k : Int) < (n : Int) := by omega
      clear hc hc2 hck hck2 hp
      go_wp2
      go_quiet (fail)
      have hb2 := Go.Proofs.Ytlikmlhlfbdchaa.Below.drewN (n := nq) hb
      generalize wr.drewN nq = wd at *
      clear c0 c1 c2 c3 e0 e1 e2 e3 hq
      go_wp2
      go_roundw
      case rel => exact ⟨k + 1, by omega, by go_num, hb2⟩
      case measure => simp [intOf]; omega
    · obtain rfl : k = n := by omega
      go_wp2
      go_ret
      exact ⟨rfl, hb⟩

theorem range_pre {w : World} {g o : Nat} {xs ys : List Value} (h : w.rangeAt g o (xs ++ ys)) : w.rangeAt g o xs := fun j v hv => h j v (by
  have hj : j < xs.length := by
    rcases Nat.lt_or_ge j xs.length with e | e
    · exact e
    · rw [List.getElem?_eq_none e] at hv; cases hv
  rw [List.getElem?_append_left hj]; exact hv)
theorem desk_board {w : World} {g : Nat} {s : Ne.Bo} {fA pA lA : Option Addr} {f fC m pC n lC : Nat} (h : w.rangeAt g 0 (dkA s fA f fC pA m pC lA n lC).toList) : w.rangeAt g 0 (boW s fA f fC).toList :=
  range_pre (ys := [.slice pA m pC, .slice lA n lC]) h
theorem Ne.roV_len (b : Ne.Bo) (l : List Ne.Pa) (i : Int) : (Ne.roV b l i).length ≤ 200 := by
  unfold Ne.roV
  split
  · exact Ne.rwK_len _ _ _ _ _ _
  · simp
set_option maxRecDepth 100000 in
set_option maxHeartbeats 8000000 in
theorem law_rows (b : Ne.Bo) (ps : List Ne.Pa) (pl : List Ne.Pc) (fA : Option Addr) (f fC : Nat) (pA : Option Addr) (m pC : Nat) (lA : Option Addr) (n lC : Nat) (i : Int) (hf : b.fs.length = f) (hm : ps.length = m) (hn : pl.length = n) (hfM : f ≤ 9223372036854775807) (hmM : m ≤ 9223372036854775807) (hnM : n ≤ 9223372036854775807)
    (w : World) (hF : Rows Ne.rcL 4 w fA b.fs) (hP : Ne.PaM w pA ps) (hL : Rows Ne.pcL 4 w lA pl) :
    Calls Try.prog 6 #[.agg (dkA b fA f fC pA m pC lA n lC), .int .i64 i] w fun e w' => e = .returned (.bool true) ∧ Below w.heap.size w w' := by
  have hB := (Below.refl w.heap.size w).alloc (Nat.le_refl _) (.cells (dkA b fA f fC pA m pC lA n lC) 37)
  have bD := Blk.new w 37 (dkA b fA f fC pA m pC lA n lC)
  have hrD := bD.range
  have HFW := Lib.hid (fun W h h' => few_b b fA f fC pA m pC lA n lC ps pl hm hn hmM hnM W h h')
  have HP := Lib.hid (hP.below hB)
  have HL := Lib.hid (hL.below hB)
  have HF := Lib.hid (hF.below hB)
  obtain ⟨E, hE⟩ : ∃ E, Ne.roE b ps i = E := ⟨_, rfl⟩
  obtain ⟨R, hR⟩ : ∃ R, Ne.roV b ps i = R := ⟨_, rfl⟩
  obtain ⟨E2, hE2⟩ : ∃ E, Ne.cpE b ps i = E := ⟨_, rfl⟩
  obtain ⟨R2, hR2⟩ : ∃ R, Ne.bdV b ps i = R := ⟨_, rfl⟩
  have HX1 := Lib.hid (fun W h h' => Rows_b b fA pA ps f fC m pC i hf hm E hE R hR W h h')
  have HX2 := Lib.hid (fun W h h' => rRows_b b fA pA ps f fC m pC i hf hm hfM hmM E hE R hR W h h')
  have HY1 := Lib.hid (fun W h h' => Bound_b b fA pA ps f fC m pC i hf hm E2 hE2 R2 hR2 W h h')
  have HY2 := Lib.hid (fun W h h' => rBound_b b fA pA ps f fC m pC i hf hm hfM hmM E2 hE2 R2 hR2 W h h')
  have hrl := Ne.roV_len b ps i
  rw [hR] at hrl
  obtain ⟨rl, hrn⟩ : ∃ rl, R.length = rl := ⟨_, rfl⟩
  have HRN := Lib.hid hrn
  rw [hrn] at hrl
  have hee : (E == E) = true := by simp
  have hee2 : (E2 == E2) = true := by simp
  have hrr : (R2 == R2) = true := by simp
  clear hP hL hF hm hn hf hE hR hE2 hR2 hmM hfM hrn
  go_enter Try.func6, Try.ntmps6
  go_wp2_with (refine ldm_dk hrD (by rfl) _ rfl rfl ?_)
  refine (HFW.out _ HP.out HL.out).mono ?_
  rintro e w1 ⟨⟨r, rfl, _⟩, b1⟩
  have hB1 := hB.trans (b1.mono hB.size)
  have bD1 := bD.below b1 bD.lt
  have HP1 := Lib.hid (HP.out.below b1)
  have HF1 := Lib.hid (HF.out.below b1)
  clear bD HP HL HF hrD hB b1 HFW
  cases r with
  | false =>
    go_wp2_with fail
    refine (awake_any _).mono ?_
    rintro e w2 ⟨rfl, b2⟩
    go_wp2
    go_ret
    exact ⟨rfl, hB1.trans (b2.mono hB1.size)⟩
  | true =>
    have hb1 := desk_board bD1.range
    have q4 := bD1.cell 4
    simp only [List.getElem?_toArray, List.getElem?_cons_zero, List.getElem?_cons_succ] at q4
    go_wp2_with (refine ldm_bo hb1 (by rfl) _ rfl rfl ?_)
    refine (HX1.out _ HF1.out HP1.out).mono ?_
    rintro e w2 ⟨v1, rfl, hO1, b2⟩
    obtain ⟨A1, c1, rfl, hr1, _⟩ := rows_of_owns Ne.encPc hO1
    have hB2 := hB1.trans (b2.mono hB1.size)
    have bD2 := bD1.below b2 bD1.lt
    have HP2 := Lib.hid (HP1.out.below b2)
    have HF2 := Lib.hid (HF1.out.below b2)
    have HR1 := Lib.hid hr1
    rw [HRN.out]
    clear hb1 q4 bD1 hO1 hr1 b2 HP1 HF1
    have hb1 := desk_board bD2.range
    have q4 := bD2.cell 4
    simp only [List.getElem?_toArray, List.getElem?_cons_zero, List.getElem?_cons_succ] at q4
    go_wp2_with (refine ldm_bo hb1 (by rfl) _ rfl rfl ?_)
    refine (HX2.out _ HF2.out HP2.out).mono ?_
    rintro e w3 ⟨v2, rfl, hO2, b3⟩
    obtain ⟨A2, c2, rfl, hr2, _⟩ := rows_of_owns Ne.encPc hO2
    have hB3 := hB2.trans (b3.mono hB2.size)
    have bD3 := bD2.below b3 bD2.lt
    have HP3 := Lib.hid (HP2.out.below b3)
    have HF3 := Lib.hid (HF2.out.below b3)
    have HR2 := Lib.hid hr2
    have HR3 := Lib.hid (HR1.out.below b3)
    rw [HRN.out]
    clear hb1 q4 bD2 hO2 hr2 b3 HP2 HF2 HR1
    go_wp2_with fail
    refine (same_pl A1 A2 R rl c1 c2 HRN.out (by omega) _ HR3.out HR2.out).mono ?_
    rintro e w4 ⟨rfl, b4⟩
    have hB4 := hB3.trans (b4.mono hB3.size)
    have bD4 := bD3.below b4 bD3.lt
    have HP4 := Lib.hid (HP3.out.below b4)
    have HF4 := Lib.hid (HF3.out.below b4)
    clear bD3 b4 HP3 HF3 HR2 HR3
    have hb1 := desk_board bD4.range
    have q4 := bD4.cell 4
    simp only [List.getElem?_toArray, List.getElem?_cons_zero, List.getElem?_cons_succ] at q4
    go_wp2_with (refine ldm_bo hb1 (by rfl) _ rfl rfl ?_)
    refine (HY1.out _ HF4.out HP4.out).mono ?_
    rintro e w5 ⟨rfl, b5⟩
    have hB5 := hB4.trans (b5.mono hB4.size)
    have bD5 := bD4.below b5 bD4.lt
    have HP5 := Lib.hid (HP4.out.below b5)
    have HF5 := Lib.hid (HF4.out.below b5)
    clear hb1 q4 bD4 b5 HP4 HF4
    have hb1 := desk_board bD5.range
    have q4 := bD5.cell 4
    simp only [List.getElem?_toArray, List.getElem?_cons_zero, List.getElem?_cons_succ] at q4
    go_wp2_with (refine ldm_bo hb1 (by rfl) _ rfl rfl ?_)
    refine (HY2.out _ HF5.out HP5.out).mono ?_
    rintro e w6 ⟨rfl, b6⟩
    have hB6 := hB5.trans (b6.mono hB5.size)
    clear hb1 q4 bD5 b6 HP5 HF5
    go_wp2_with fail
    refine (awake_any _).mono ?_
    rintro e w7 ⟨rfl, b7⟩
    go_wp2
    go_ret
    exact ⟨rfl, hB6.trans (b7.mono hB6.size)⟩
end Go.Proofs.Ytlikmlhlfbdchaa
