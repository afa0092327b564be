/- Stage, of the program and of the document. -/
import Derived.Test.YtlfbfdhdkccaeaaS2
import Derived.Test.YtlfbfdhdkccaeaaN1
namespace Go.Proofs.Ytlfbfdhdkccaeaa
open Go.RowKit Go.Shelf Go.Sort

theorem Pl.stV_bad {l : List Pl.Bt} {r : Pl.Rn} {cl h : Int} (h0 : Pl.stE l r cl ≠ 0) : Pl.stV l r cl h = 0 := if_neg h0


set_option maxRecDepth 100000 in
set_option maxHeartbeats 8000000 in
theorem Stage_any (A : Option Addr) (l : List Pl.Bt) (c n : Nat) (hn : l.length = n) (r : Pl.Rn) (hrw : Pl.Rw r) (cl h : Int) (w : World) (hI : Bts w A l) :
    Calls Try.prog 47 #[.slice A n c, .agg (rnA r), .int .i64 cl, .int .i64 h] w fun e w' => e = .returned (.tuple #[.int .i64 (Pl.stV l r cl h), .int .i64 (Pl.stE l r cl)]) ∧ Below w.heap.size w w' := by
  have hB := (Below.refl w.heap.size w).alloc (Nat.le_refl _) (.cells (rnA r) 66)
  have bR := Blk.new w 66 (rnA r)
  have HI0 := Lib.hid (hI.below hB)
  have HC := Lib.hid (fun w' hI => valid_any A l c w' hI)
  obtain ⟨V, hV⟩ : ∃ V, Pl.stV l r cl h = V := ⟨_, rfl⟩
  obtain ⟨R, hR⟩ : ∃ R, Pl.stE l r cl = R := ⟨_, rfl⟩
  rw [hV, hR]
  obtain ⟨x, hx⟩ : ∃ x, Pl.vs l = x := ⟨_, rfl⟩
  rw [hx, hn] at HC
  cases x
  · have HF : Hid (V = 0 ∧ R = 60) := Lib.hid (by
      have h6 : R = 60 := by rw [← hR, Pl.stE_no hx]
      exact ⟨by rw [← hV, Pl.stV_bad (by rw [hR, h6]; decide)], h6⟩)
    clear hI hn hR hV hx hrw
    go_enter Try.func47, Try.ntmps47
    go_wp2_with fail
    refine (HC.out _ HI0.out).mono ?_
    rintro e w1 ⟨rfl, hb1⟩
    have hB1 := hB.trans (hb1.mono hB.size)
    go_wp2
    go_ret2
    exact ⟨by rw [HF.out.1, HF.out.2]; rfl, hB1⟩
  have hok := Pl.ok_of hx
  have hn4 : n ≤ 40 := hn ▸ hok.len
  obtain ⟨y, hy⟩ : ∃ y, Pl.inB 0 cl 100 = y := ⟨_, rfl⟩
  have HBAD : Hid (¬ (Pl.inB 0 cl 100 = true ∧ (0 ≤ r.b ∧ r.b < l.length) ∧ Pl.er (Pl.at' l r.b.toNat) r cl = true) → V = 0 ∧ R = 2) := Lib.hid (fun hh => by
    have h6 : R = 2 := by rw [← hR, Pl.stE_bad hx hh]
    exact ⟨by rw [← hV, Pl.stV_bad (by rw [hR, h6]; decide)], h6⟩)
  have HY := Lib.hid hy
  cases y
  · have HF := Lib.hid (HBAD.out (by rw [hy]; simp))
    have hcl : cl < 0 ∨ 0 ≤ cl ∧ 100 < cl := by have := Pl.inB_false.1 hy; omega
    clear hI hn hR hV hx hrw hy hok
    go_enter Try.func47, Try.ntmps47
    go_wp2_with fail
    refine (HC.out _ HI0.out).mono ?_
    rintro e w1 ⟨rfl, hb1⟩
    have hB1 := hB.trans (hb1.mono hB.size)
    have bR1 := bR.below hb1 bR.lt
    have q0 := bR1.cell 0
    have q1 := bR1.cell 1
    have q2 := bR1.cell 2
    have q3 := bR1.cell 3
    have hrr := bR1.rn
    have HI1 := Lib.hid (HI0.out.below hb1)
    clear hb1 bR HC
    go_wp2_with (first | refine ldm_rn hrr rfl _ rfl rfl ?_ | (go_at_call 71; refine (within_b _ _ _ _ HY.out _).mono ?_; rintro e w4 ⟨rfl, rfl⟩))
    go_ret2
    exact ⟨by rw [HF.out.1, HF.out.2]; rfl, hB1⟩
  obtain ⟨hc0, hc1⟩ := Pl.inB_true.1 hy
  have hc0' : ¬ cl < 0 := by omega
  have hc1' : ¬ 100 < cl := by omega
  obtain ⟨ix, hix⟩ : ∃ ix, decide (0 ≤ r.b ∧ r.b < (n : Int)) = ix := ⟨_, rfl⟩
  have HIX := Lib.hid hix
  cases ix
  · have HF := Lib.hid (HBAD.out (fun hh => by rw [hn] at hh; exact absurd hh.2.1 (of_decide_eq_false hix)))
    clear hI hn hR hV hx hrw hy hok hix
    go_enter Try.func47, Try.ntmps47
    go_wp2_with fail
    refine (HC.out _ HI0.out).mono ?_
    rintro e w1 ⟨rfl, hb1⟩
    have hB1 := hB.trans (hb1.mono hB.size)
    have bR1 := bR.below hb1 bR.lt
    have q0 := bR1.cell 0
    have q1 := bR1.cell 1
    have q2 := bR1.cell 2
    have q3 := bR1.cell 3
    have hrr := bR1.rn
    have HI1 := Lib.hid (HI0.out.below hb1)
    clear hb1 bR HC
    go_wp2_with (first | refine ldm_rn hrr rfl _ rfl rfl ?_ | (go_at_call 71; refine (within_b _ _ _ _ HY.out _).mono ?_; rintro e w4 ⟨rfl, rfl⟩) | (go_at_call 81; refine (isindex_b r.b A n c (by omega) _ HIX.out _).mono ?_; rintro e w4 ⟨rfl, rfl⟩))
    go_ret2
    exact ⟨by rw [HF.out.1, HF.out.2]; rfl, hB1⟩
  have hrb := of_decide_eq_true hix
  obtain ⟨q, hq⟩ : ∃ q : Nat, r.b = q := ⟨r.b.toNat, by omega⟩
  have hqn : q < n := by omega
  have hqI : (q : Int) < (n : Int) := by omega
  have hvb := hok.vb q (by omega)
  obtain ⟨E, hE⟩ : ∃ E, Pl.at' l q = E := ⟨_, rfl⟩
  rw [hE] at hvb
  obtain ⟨z, hz⟩ : ∃ z, Pl.er E r cl = z := ⟨_, rfl⟩
  have HER := Lib.hid (fun w' hI => endsRight_b A l c n q hn hqn E hE hvb r hq hrw cl hc0 hc1 z hz w' hI)
  rw [hq] at HIX
  cases z
  · have HF := Lib.hid (HBAD.out (fun hh => by rw [hq, Int.toNat_natCast, hE] at hh; rw [hz] at hh; exact absurd hh.2.2 (by simp)))
    obtain ⟨⟨rb, rf, rt, rc⟩, hre⟩ : ∃ r', r = r' := ⟨r, rfl⟩
    subst hre
    obtain rfl : rb = (q : Int) := hq
    clear hI hn hR hV hx hrw hy hok hix hrb hE hz hvb
    go_enter Try.func47, Try.ntmps47
    go_wp2_with fail
    refine (HC.out _ HI0.out).mono ?_
    rintro e w1 ⟨rfl, hb1⟩
    have hB1 := hB.trans (hb1.mono hB.size)
    have bR1 := bR.below hb1 bR.lt
    have q0 := bR1.cell 0
    have q1 := bR1.cell 1
    have q2 := bR1.cell 2
    have q3 := bR1.cell 3
    have hrr := bR1.rn
    have HI1 := Lib.hid (HI0.out.below hb1)
    clear hb1 bR HC
    go_wp2_with (first | refine ldm_rn hrr rfl _ rfl rfl ?_ | (go_at_call 71; refine (within_b _ _ _ _ HY.out _).mono ?_; rintro e w4 ⟨rfl, rfl⟩) | (go_at_call 81; refine (isindex_b (q : Int) A n c (by omega) _ HIX.out _).mono ?_; rintro e w4 ⟨rfl, rfl⟩))
    refine (HER.out _ HI1.out).mono ?_
    rintro e w4 ⟨rfl, hb4⟩
    have hB4 := hB1.trans (hb4.mono hB1.size)
    go_wp2
    go_ret2
    exact ⟨by rw [HF.out.1, HF.out.2]; rfl, hB4⟩
  have HR : Hid (R = 0) := Lib.hid (by rw [← hR]; exact Pl.stE_ok hx ⟨hy, by rw [hn]; exact hrb, by rw [hq, Int.toNat_natCast, hE]; exact hz⟩)
  have HV : Hid (V = if h < r.f ∨ r.t ≤ h then 5 else Pl.sg E (Pl.hc r.c cl) (h - r.f)) := Lib.hid (by
    rw [← hV]
    unfold Pl.stV
    rw [hR, HR.out, if_pos rfl, hq, Int.toNat_natCast, hE])
  obtain ⟨t1, t2⟩ := Pl.er_true.1 hz
  obtain ⟨⟨rb, rf, rt, rc⟩, hre⟩ : ∃ r', r = r' := ⟨r, rfl⟩
  subst hre
  obtain rfl : rb = (q : Int) := hq
  obtain ⟨x, hxc⟩ : ∃ x, Pl.hc rc cl = x := ⟨_, rfl⟩
  obtain ⟨x0, x1⟩ : 0 ≤ x ∧ x ≤ 100 := by rw [← hxc]; exact Pl.hc_bd hc0 hc1
  have HHO := Lib.hid (fun W => hoursOf_b E rc cl W)
  rw [hxc] at HHO
  change rf ≤ rt at t1
  change rt - rf = Pl.hc rc cl + Pl.len E at t2
  rw [hxc] at t2
  have HVV : Hid (V = if h < rf ∨ rt ≤ h then 5 else Pl.sg E x (h - rf)) := Lib.hid (by rw [HV.out]; show (if h < rf ∨ rt ≤ h then (5 : Int) else Pl.sg E (Pl.hc rc cl) (h - rf)) = _; rw [hxc])
  have HSB := Lib.hid (fun (p s : Int) (h1 : 0 < s) (h2 : p + s = x + Pl.len E) => Pl.sg_sb hvb h1 h2)
  have HCZ := Lib.hid (fun W (hB : Below w.heap.size w W) => (show ∃ bz oz, A = some ⟨bz, oz, none⟩ ∧ bz < W.heap.size ∧ W.rangeAt bz (oz + q * 7) (btA E).toList by
    obtain ⟨bz, oz, rfl, hbz, hcz⟩ := bts_open hI (by omega)
    have := bts_cells hbz hcz hB (i := q) (by omega)
    rw [hE] at this
    exact ⟨bz, oz, rfl, Nat.lt_of_lt_of_le hbz hB.size, this⟩))
  obtain ⟨a0, b0, a1, b1, a2, b2, a3, b3, _⟩ := hvb
  have hlen : Pl.len E = E.h0 + E.h1 + E.h2 + E.h3 := rfl
  rw [hlen] at t2
  have HLN := Lib.hid hlen
  obtain ⟨_, ⟨f0, f1⟩, u0, u1⟩ := hrw
  change -9223372036854775808 ≤ rf at f0
  change rf ≤ 9223372036854775807 at f1
  change -9223372036854775808 ≤ rt at u0
  change rt ≤ 9223372036854775807 at u1
  clear hI hn hR hV hx hy hok hix hrb hE hz HV HBAD hxc hlen
  go_enter Try.func47, Try.ntmps47
  go_wp2_with fail
  refine (HC.out _ HI0.out).mono ?_
  rintro e w1 ⟨rfl, hb1⟩
  have hB1 := hB.trans (hb1.mono hB.size)
  have bR1 := bR.below hb1 bR.lt
  have q0 := bR1.cell 0
  have q1 := bR1.cell 1
  have q2 := bR1.cell 2
  have q3 := bR1.cell 3
  have hrr := bR1.rn
  have HI1 := Lib.hid (HI0.out.below hb1)
  clear hb1 bR HC
  go_wp2_with (first | refine ldm_rn hrr rfl _ rfl rfl ?_ | (go_at_call 71; refine (within_b _ _ _ _ HY.out _).mono ?_; rintro e w4 ⟨rfl, rfl⟩) | (go_at_call 81; refine (isindex_b (q : Int) A n c (by omega) _ HIX.out _).mono ?_; rintro e w4 ⟨rfl, rfl⟩))
  refine (HER.out _ HI1.out).mono ?_
  rintro e w4 ⟨rfl, hb4⟩
  have hB4 := hB1.trans (hb4.mono hB1.size)
  have bR4 := bR1.below hb4 bR1.lt
  have p0 := bR4.cell 0
  have p1 := bR4.cell 1
  have p2 := bR4.cell 2
  have p3 := bR4.cell 3
  clear hb4 bR1 q0 q1 q2 q3 hrr hB1 HI1 HER
  by_cases e1 : h < rf
  · have HF : Hid (V = 5) := Lib.hid (by rw [HVV.out, if_pos (Or.inl e1)])
    go_wp2
    go_ret2
    exact ⟨by rw [HF.out, HR.out]; rfl, hB4⟩
  by_cases e2 : rt ≤ h
  · have HF : Hid (V = 5) := Lib.hid (by rw [HVV.out, if_pos (Or.inr e2)])
    go_wp2
    go_ret2
    exact ⟨by rw [HF.out, HR.out]; rfl, hB4⟩
  have HVS : Hid (V = Pl.sg E x (h - rf)) := Lib.hid (by rw [HVV.out, if_neg (by omega)])
  clear HVV
  obtain ⟨bz, oz, hA, hbz, hr⟩ := HCZ.out w4 hB4
  subst hA
  have k1 : IntKind.i64.wrap (h - rf) = h - rf := IntWalk.i64_in _ (by omega)
  obtain ⟨p, hp⟩ : ∃ p, h - rf = p := ⟨_, rfl⟩
  have hp0 : 0 ≤ p := by omega
  have hp1 : p < x + (E.h0 + E.h1 + E.h2 + E.h3) := by omega
  rw [hp] at HVS k1
  have s0 := fun s : Ext w4 => s.cell (p0.trans rfl)
  have s3 := fun s : Ext w4 => s.cell (p3.trans rfl)
  have y0 := fun s : Ext w4 => (bt_cells (ext_range s hr hbz)).1
  have y1 := fun s : Ext w4 => (bt_cells (ext_range s hr hbz)).2.1
  have y2 := fun s : Ext w4 => (bt_cells (ext_range s hr hbz)).2.2.1
  have y3 := fun s : Ext w4 => (bt_cells (ext_range s hr hbz)).2.2.2.1
  have y4 := fun s : Ext w4 => (bt_cells (ext_range s hr hbz)).2.2.2.2.1
  have y5 := fun s : Ext w4 => (bt_cells (ext_range s hr hbz)).2.2.2.2.2.1
  have y6 := fun s : Ext w4 => (bt_cells (ext_range s hr hbz)).2.2.2.2.2.2
  have i0 : ∀ w, (Instr.index 87 (.agg (h5L E x).toArray) (.int .i64 0)).run Try.prog w = .ok (.int .i64 x) w := fun _ => by kernel_rfl
  have i1 : ∀ w, (Instr.index 87 (.agg (h5L E x).toArray) (.int .i64 1)).run Try.prog w = .ok (.int .i64 E.h0) w := fun _ => by kernel_rfl
  have i2 : ∀ w, (Instr.index 87 (.agg (h5L E x).toArray) (.int .i64 2)).run Try.prog w = .ok (.int .i64 E.h1) w := fun _ => by kernel_rfl
  have i3 : ∀ w, (Instr.index 87 (.agg (h5L E x).toArray) (.int .i64 3)).run Try.prog w = .ok (.int .i64 E.h2) w := fun _ => by kernel_rfl
  have i4 : ∀ w, (Instr.index 87 (.agg (h5L E x).toArray) (.int .i64 4)).run Try.prog w = .ok (.int .i64 E.h3) w := fun _ => by kernel_rfl
  clear hr bR4 p0 p3 t2
  go_wp2
  clear k1 p1 p2 e1 e2
  refine wp_region_ext (by kernel_rfl) (by kernel_rfl) ?_
  repeat (go_big_quiet_step ((go_at_call 69; refine calls_ext (HHO.out _))))
  refine wpQuiet_nil ?_
  rintro _ ⟨s, rfl⟩
  have hB5 := hB4.trans (s.h.mono hB4.size)
  clear s0 s3 y0 y1 y2 y3 y4 y5 y6 hB4
  go_wp2
  go_loop [10, 11, 12, 56] (fun v _ _ i => ∃ k : Nat, ∃ P : Int, k ≤ 5 ∧ i = .int .i64 k ∧ v = .int .i64 P ∧ (k = 0 → P = p) ∧ (k = 1 → P = p - x) ∧ (k = 2 → P = p - x - E.h0) ∧ (k = 3 → P = p - x - E.h0 - E.h1) ∧ (k = 4 → P = p - x - E.h0 - E.h1 - E.h2) ∧ (1 ≤ k → ¬ p < x) ∧ (2 ≤ k → ¬ p - x < E.h0) ∧ (3 ≤ k → ¬ p - x - E.h0 < E.h1) ∧ (4 ≤ k → ¬ p - x - E.h0 - E.h1 < E.h2) ∧ k ≤ 4) (fun _ _ _ i => 5 - (intOf i).toNat)
  case atStart => exact ⟨0, p, by omega, rfl, by first | rfl | rw [hp], fun _ => rfl, fun h => absurd h (by omega), fun h => absurd h (by omega), fun h => absurd h (by omega), fun h => absurd h (by omega), fun h => absurd h (by omega), fun h => absurd h (by omega), fun h => absurd h (by omega), fun h => absurd h (by omega), by omega⟩
  case round =>
    obtain ⟨k, P, hk, rfl, rfl, g0, g1, g2, g3, g4, n1, n2, n3, n4, hk4⟩ := hrel
    have hk5 : k = 0 ∨ k = 1 ∨ k = 2 ∨ k = 3 ∨ k = 4 := by omega
    have HP := Lib.hid hp
    clear hp
    rcases hk5 with rfl | rfl | rfl | rfl | rfl
    · obtain rfl : p = P := (g0 rfl).symm
      clear g0 g1 g2 g3 g4 n1 n2 n3 n4
      by_cases hlt : p < x
      · have HF : Hid (V = 0) := Lib.hid (by rw [HVS.out]; unfold Pl.sg; rw [if_pos hlt])
        go_wp2
        go_ret2
        exact ⟨by rw [HF.out, HR.out]; rfl, hB5⟩
      · have kk : IntKind.i64.wrap (p - x) = p - x := IntWalk.i64_in _ (by omega)
        go_wp2
        go_round
        case rel => exact ⟨1, _, by omega, by simp, rfl, (fun h => absurd h (by omega)), (fun _ => by first | rfl | omega), (fun h => absurd h (by omega)), (fun h => absurd h (by omega)), (fun h => absurd h (by omega)), (fun _ => by omega), (fun h => absurd h (by omega)), (fun h => absurd h (by omega)), (fun h => absurd h (by omega)), by omega⟩
        case measure => simp [intOf]
    · obtain rfl : p - x = P := (g1 rfl).symm
      have m1 := n1 (by omega)
      clear g0 g1 g2 g3 g4 n1 n2 n3 n4
      by_cases hlt : p - x < E.h0
      · have HF : Hid (V = 1) := Lib.hid (by rw [HVS.out]; unfold Pl.sg; rw [if_neg m1, if_pos hlt])
        go_wp2
        go_ret2
        exact ⟨by rw [HF.out, HR.out]; rfl, hB5⟩
      · have kk : IntKind.i64.wrap (p - x - E.h0) = p - x - E.h0 := IntWalk.i64_in _ (by omega)
        go_wp2
        go_round
        case rel => exact ⟨2, _, by omega, by simp, rfl, (fun h => absurd h (by omega)), (fun h => absurd h (by omega)), (fun _ => by first | rfl | omega), (fun h => absurd h (by omega)), (fun h => absurd h (by omega)), (fun _ => by omega), (fun _ => by omega), (fun h => absurd h (by omega)), (fun h => absurd h (by omega)), by omega⟩
        case measure => simp [intOf]
    · obtain rfl : p - x - E.h0 = P := (g2 rfl).symm
      have m1 := n1 (by omega)
      have m2 := n2 (by omega)
      clear g0 g1 g2 g3 g4 n1 n2 n3 n4
      by_cases hlt : p - x - E.h0 < E.h1
      · have HF : Hid (V = 2) := Lib.hid (by rw [HVS.out]; unfold Pl.sg; rw [if_neg m1, if_neg m2, if_pos hlt])
        go_wp2
        go_ret2
        exact ⟨by rw [HF.out, HR.out]; rfl, hB5⟩
      · have kk : IntKind.i64.wrap (p - x - E.h0 - E.h1) = p - x - E.h0 - E.h1 := IntWalk.i64_in _ (by omega)
        go_wp2
        go_round
        case rel => exact ⟨3, _, by omega, by simp, rfl, (fun h => absurd h (by omega)), (fun h => absurd h (by omega)), (fun h => absurd h (by omega)), (fun _ => by first | rfl | omega), (fun h => absurd h (by omega)), (fun _ => by omega), (fun _ => by omega), (fun _ => by omega), (fun h => absurd h (by omega)), by omega⟩
        case measure => simp [intOf]
    · obtain rfl : p - x - E.h0 - E.h1 = P := (g3 rfl).symm
      have m1 := n1 (by omega)
      have m2 := n2 (by omega)
      have m3 := n3 (by omega)
      clear g0 g1 g2 g3 g4 n1 n2 n3 n4
      by_cases hlt : p - x - E.h0 - E.h1 < E.h2
      · have HF : Hid (V = 3) := Lib.hid (by rw [HVS.out]; unfold Pl.sg; rw [if_neg m1, if_neg m2, if_neg m3, if_pos hlt])
        go_wp2
        go_ret2
        exact ⟨by rw [HF.out, HR.out]; rfl, hB5⟩
      · have kk : IntKind.i64.wrap (p - x - E.h0 - E.h1 - E.h2) = p - x - E.h0 - E.h1 - E.h2 := IntWalk.i64_in _ (by omega)
        go_wp2
        go_round
        case rel => exact ⟨4, _, by omega, by simp, rfl, (fun h => absurd h (by omega)), (fun h => absurd h (by omega)), (fun h => absurd h (by omega)), (fun h => absurd h (by omega)), (fun _ => by first | rfl | omega), (fun _ => by omega), (fun _ => by omega), (fun _ => by omega), (fun _ => by omega), by omega⟩
        case measure => simp [intOf]
    · obtain rfl : p - x - E.h0 - E.h1 - E.h2 = P := (g4 rfl).symm
      have m1 := n1 (by omega)
      have m2 := n2 (by omega)
      have m3 := n3 (by omega)
      have m4 := n4 (by omega)
      clear g0 g1 g2 g3 g4 n1 n2 n3 n4
      by_cases hlt : p - x - E.h0 - E.h1 - E.h2 < E.h3
      · have HF : Hid (V = 4) := Lib.hid (by rw [HVS.out]; unfold Pl.sg; rw [if_neg m1, if_neg m2, if_neg m3, if_neg m4, if_pos hlt])
        go_wp2
        go_ret2
        exact ⟨by rw [HF.out, HR.out]; rfl, hB5⟩
      · exfalso; omega

set_option maxRecDepth 100000 in
set_option maxHeartbeats 8000000 in
theorem rStage_any (A : Option Addr) (l : List Pl.Bt) (c n : Nat) (hn : l.length = n) (r : Pl.Rn) (hrw : Pl.Rw r) (cl h : Int) (w : World) (hI : Bts w A l) :
    Calls Try.prog 48 #[.slice A n c, .agg (rnA r), .int .i64 cl, .int .i64 h] w fun e w' => e = .returned (.tuple #[.int .i64 (Pl.stV l r cl h), .int .i64 (Pl.stE l r cl)]) ∧ Below w.heap.size w w' := by
  have hB := (Below.refl w.heap.size w).alloc (Nat.le_refl _) (.cells (rnA r) 66)
  have bR := Blk.new w 66 (rnA r)
  have HI0 := Lib.hid (hI.below hB)
  have HC := Lib.hid (fun w' hI => rvalid_any A l c w' hI)
  obtain ⟨V, hV⟩ : ∃ V, Pl.stV l r cl h = V := ⟨_, rfl⟩
  obtain ⟨R, hR⟩ : ∃ R, Pl.stE l r cl = R := ⟨_, rfl⟩
  rw [hV, hR]
  obtain ⟨x, hx⟩ : ∃ x, Pl.vs l = x := ⟨_, rfl⟩
  rw [hx, hn] at HC
  cases x
  · have HF : Hid (V = 0 ∧ R = 60) := Lib.hid (by
      have h6 : R = 60 := by rw [← hR, Pl.stE_no hx]
      exact ⟨by rw [← hV, Pl.stV_bad (by rw [hR, h6]; decide)], h6⟩)
    clear hI hn hR hV hx hrw
    go_enter Try.func48, Try.ntmps48
    go_wp2_with fail
    refine (HC.out _ HI0.out).mono ?_
    rintro e w1 ⟨rfl, hb1⟩
    have hB1 := hB.trans (hb1.mono hB.size)
    go_wp2
    go_ret2
    exact ⟨by rw [HF.out.1, HF.out.2]; rfl, hB1⟩
  have hok := Pl.ok_of hx
  have hn4 : n ≤ 40 := hn ▸ hok.len
  obtain ⟨y, hy⟩ : ∃ y, Pl.inB 0 cl 100 = y := ⟨_, rfl⟩
  have HBAD : Hid (¬ (Pl.inB 0 cl 100 = true ∧ (0 ≤ r.b ∧ r.b < l.length) ∧ Pl.er (Pl.at' l r.b.toNat) r cl = true) → V = 0 ∧ R = 2) := Lib.hid (fun hh => by
    have h6 : R = 2 := by rw [← hR, Pl.stE_bad hx hh]
    exact ⟨by rw [← hV, Pl.stV_bad (by rw [hR, h6]; decide)], h6⟩)
  have HY := Lib.hid hy
  cases y
  · have HF := Lib.hid (HBAD.out (by rw [hy]; simp))
    have hcl : cl < 0 ∨ 0 ≤ cl ∧ 100 < cl := by have := Pl.inB_false.1 hy; omega
    clear hI hn hR hV hx hrw hy hok
    go_enter Try.func48, Try.ntmps48
    go_wp2_with fail
    refine (HC.out _ HI0.out).mono ?_
    rintro e w1 ⟨rfl, hb1⟩
    have hB1 := hB.trans (hb1.mono hB.size)
    have bR1 := bR.below hb1 bR.lt
    have q0 := bR1.cell 0
    have q1 := bR1.cell 1
    have q2 := bR1.cell 2
    have q3 := bR1.cell 3
    have hrr := bR1.rn
    have HI1 := Lib.hid (HI0.out.below hb1)
    clear hb1 bR HC
    rcases hcl with hcl | ⟨hcl1, hcl2⟩
    · go_wp2
      go_ret2
      exact ⟨by rw [HF.out.1, HF.out.2]; rfl, hB1⟩
    · go_wp2
      go_ret2
      exact ⟨by rw [HF.out.1, HF.out.2]; rfl, hB1⟩
  obtain ⟨hc0, hc1⟩ := Pl.inB_true.1 hy
  have hc0' : ¬ cl < 0 := by omega
  have hc1' : ¬ 100 < cl := by omega
  obtain ⟨ix, hix⟩ : ∃ ix, decide (0 ≤ r.b ∧ r.b < (n : Int)) = ix := ⟨_, rfl⟩
  have HIX := Lib.hid hix
  cases ix
  · have HF := Lib.hid (HBAD.out (fun hh => by rw [hn] at hh; exact absurd hh.2.1 (of_decide_eq_false hix)))
    clear hI hn hR hV hx hrw hy hok hix
    go_enter Try.func48, Try.ntmps48
    go_wp2_with fail
    refine (HC.out _ HI0.out).mono ?_
    rintro e w1 ⟨rfl, hb1⟩
    have hB1 := hB.trans (hb1.mono hB.size)
    have bR1 := bR.below hb1 bR.lt
    have q0 := bR1.cell 0
    have q1 := bR1.cell 1
    have q2 := bR1.cell 2
    have q3 := bR1.cell 3
    have hrr := bR1.rn
    have HI1 := Lib.hid (HI0.out.below hb1)
    clear hb1 bR HC
    go_wp2_with (first | refine ldm_rn hrr rfl _ rfl rfl ?_ | (go_at_call 54; refine (risindex_b r.b A n c _ HIX.out _).mono ?_; rintro e w4 ⟨rfl, rfl⟩))
    go_ret2
    exact ⟨by rw [HF.out.1, HF.out.2]; rfl, hB1⟩
  have hrb := of_decide_eq_true hix
  obtain ⟨q, hq⟩ : ∃ q : Nat, r.b = q := ⟨r.b.toNat, by omega⟩
  have hqn : q < n := by omega
  have hqI : (q : Int) < (n : Int) := by omega
  have hvb := hok.vb q (by omega)
  obtain ⟨E, hE⟩ : ∃ E, Pl.at' l q = E := ⟨_, rfl⟩
  rw [hE] at hvb
  obtain ⟨z, hz⟩ : ∃ z, Pl.er E r cl = z := ⟨_, rfl⟩
  have HER := Lib.hid (fun w' hI => timed_b A l c n q hn hqn E hE hvb r hq hrw cl hc0 hc1 z hz w' hI)
  rw [hq] at HIX
  cases z
  · have HF := Lib.hid (HBAD.out (fun hh => by rw [hq, Int.toNat_natCast, hE] at hh; rw [hz] at hh; exact absurd hh.2.2 (by simp)))
    obtain ⟨⟨rb, rf, rt, rc⟩, hre⟩ : ∃ r', r = r' := ⟨r, rfl⟩
    subst hre
    obtain rfl : rb = (q : Int) := hq
    clear hI hn hR hV hx hrw hy hok hix hrb hE hz hvb
    go_enter Try.func48, Try.ntmps48
    go_wp2_with fail
    refine (HC.out _ HI0.out).mono ?_
    rintro e w1 ⟨rfl, hb1⟩
    have hB1 := hB.trans (hb1.mono hB.size)
    have bR1 := bR.below hb1 bR.lt
    have q0 := bR1.cell 0
    have q1 := bR1.cell 1
    have q2 := bR1.cell 2
    have q3 := bR1.cell 3
    have hrr := bR1.rn
    have HI1 := Lib.hid (HI0.out.below hb1)
    clear hb1 bR HC
    go_wp2_with (first | refine ldm_rn hrr rfl _ rfl rfl ?_ | (go_at_call 54; refine (risindex_b (q : Int) A n c _ HIX.out _).mono ?_; rintro e w4 ⟨rfl, rfl⟩))
    refine (HER.out _ HI1.out).mono ?_
    rintro e w4 ⟨rfl, hb4⟩
    have hB4 := hB1.trans (hb4.mono hB1.size)
    go_wp2
    go_ret2
    exact ⟨by rw [HF.out.1, HF.out.2]; rfl, hB4⟩
  have HR : Hid (R = 0) := Lib.hid (by rw [← hR]; exact Pl.stE_ok hx ⟨hy, by rw [hn]; exact hrb, by rw [hq, Int.toNat_natCast, hE]; exact hz⟩)
  have HV : Hid (V = if h < r.f ∨ r.t ≤ h then 5 else Pl.sg E (Pl.hc r.c cl) (h - r.f)) := Lib.hid (by
    rw [← hV]
    unfold Pl.stV
    rw [hR, HR.out, if_pos rfl, hq, Int.toNat_natCast, hE])
  obtain ⟨t1, t2⟩ := Pl.er_true.1 hz
  obtain ⟨⟨rb, rf, rt, rc⟩, hre⟩ : ∃ r', r = r' := ⟨r, rfl⟩
  subst hre
  obtain rfl : rb = (q : Int) := hq
  obtain ⟨x, hxc⟩ : ∃ x, Pl.hc rc cl = x := ⟨_, rfl⟩
  obtain ⟨x0, x1⟩ : 0 ≤ x ∧ x ≤ 100 := by rw [← hxc]; exact Pl.hc_bd hc0 hc1
  have HHO := Lib.hid (fun W => hoursOf_b E rc cl W)
  rw [hxc] at HHO
  change rf ≤ rt at t1
  change rt - rf = Pl.hc rc cl + Pl.len E at t2
  rw [hxc] at t2
  have HVV : Hid (V = if h < rf ∨ rt ≤ h then 5 else Pl.sg E x (h - rf)) := Lib.hid (by rw [HV.out]; show (if h < rf ∨ rt ≤ h then (5 : Int) else Pl.sg E (Pl.hc rc cl) (h - rf)) = _; rw [hxc])
  have HSB := Lib.hid (fun (p s : Int) (h1 : 0 < s) (h2 : p + s = x + Pl.len E) => Pl.sg_sb hvb h1 h2)
  have HCZ := Lib.hid (fun W (hB : Below w.heap.size w W) => (show ∃ bz oz, A = some ⟨bz, oz, none⟩ ∧ bz < W.heap.size ∧ W.rangeAt bz (oz + q * 7) (btA E).toList by
    obtain ⟨bz, oz, rfl, hbz, hcz⟩ := bts_open hI (by omega)
    have := bts_cells hbz hcz hB (i := q) (by omega)
    rw [hE] at this
    exact ⟨bz, oz, rfl, Nat.lt_of_lt_of_le hbz hB.size, this⟩))
  obtain ⟨a0, b0, a1, b1, a2, b2, a3, b3, _⟩ := hvb
  have hlen : Pl.len E = E.h0 + E.h1 + E.h2 + E.h3 := rfl
  rw [hlen] at t2
  have HLN := Lib.hid hlen
  obtain ⟨_, ⟨f0, f1⟩, u0, u1⟩ := hrw
  change -9223372036854775808 ≤ rf at f0
  change rf ≤ 9223372036854775807 at f1
  change -9223372036854775808 ≤ rt at u0
  change rt ≤ 9223372036854775807 at u1
  clear hI hn hR hV hx hy hok hix hrb hE hz HV HBAD hxc hlen
  go_enter Try.func48, Try.ntmps48
  go_wp2_with fail
  refine (HC.out _ HI0.out).mono ?_
  rintro e w1 ⟨rfl, hb1⟩
  have hB1 := hB.trans (hb1.mono hB.size)
  have bR1 := bR.below hb1 bR.lt
  have q0 := bR1.cell 0
  have q1 := bR1.cell 1
  have q2 := bR1.cell 2
  have q3 := bR1.cell 3
  have hrr := bR1.rn
  have HI1 := Lib.hid (HI0.out.below hb1)
  clear hb1 bR HC
  go_wp2_with (first | refine ldm_rn hrr rfl _ rfl rfl ?_ | (go_at_call 54; refine (risindex_b (q : Int) A n c _ HIX.out _).mono ?_; rintro e w4 ⟨rfl, rfl⟩))
  refine (HER.out _ HI1.out).mono ?_
  rintro e w4 ⟨rfl, hb4⟩
  have hB4 := hB1.trans (hb4.mono hB1.size)
  have bR4 := bR1.below hb4 bR1.lt
  have p0 := bR4.cell 0
  have p1 := bR4.cell 1
  have p2 := bR4.cell 2
  have p3 := bR4.cell 3
  clear hb4 bR1 q0 q1 q2 q3 hrr hB1 HI1 HER
  by_cases e1 : h < rf
  · have HF : Hid (V = 5) := Lib.hid (by rw [HVV.out, if_pos (Or.inl e1)])
    go_wp2
    go_ret2
    exact ⟨by rw [HF.out, HR.out]; rfl, hB4⟩
  by_cases e2 : rt ≤ h
  · have HF : Hid (V = 5) := Lib.hid (by rw [HVV.out, if_pos (Or.inr e2)])
    go_wp2
    go_ret2
    exact ⟨by rw [HF.out, HR.out]; rfl, hB4⟩
  have HVS : Hid (V = Pl.sg E x (h - rf)) := Lib.hid (by rw [HVV.out, if_neg (by omega)])
  clear HVV
  obtain ⟨bz, oz, hA, hbz, hr⟩ := HCZ.out w4 hB4
  subst hA
  have k1 : IntKind.i64.wrap (rt - h) = rt - h := IntWalk.i64_in _ (by omega)
  obtain ⟨s, hs⟩ : ∃ s, rt - h = s := ⟨_, rfl⟩
  have hs0 : 0 < s := by omega
  have hs1 : s ≤ x + (E.h0 + E.h1 + E.h2 + E.h3) := by omega
  have HVT : Hid (V = Pl.sb E s) := Lib.hid (by rw [HVS.out]; exact HSB.out _ _ hs0 (by rw [HLN.out]; omega))
  clear HVS HSB
  have q0 : w4.cell? ⟨bz, oz + q * 7 + 3, none⟩ = some (.int .i64 E.h0) := hr 3 _ rfl
  have q1 : w4.cell? ⟨bz, oz + q * 7 + 3 + 1, none⟩ = some (.int .i64 E.h1) := hr 4 _ rfl
  have q2 : w4.cell? ⟨bz, oz + q * 7 + 3 + 2, none⟩ = some (.int .i64 E.h2) := hr 5 _ rfl
  have q3 : w4.cell? ⟨bz, oz + q * 7 + 3 + 3, none⟩ = some (.int .i64 E.h3) := hr 6 _ rfl
  have HS := Lib.hid hs
  rw [hs] at k1
  clear hr bR4 p3 t2 t1
  go_wp2
  clear p1 p2 k1 e1 e2
  go_loop [10, 11] (fun v i => ∃ k : Nat, ∃ P : Int, k ≤ 4 ∧ i = .int .i64 (3 - (k : Int)) ∧ v = .int .i64 P ∧ (k = 0 → P = s) ∧ (k = 1 → P = s - E.h3) ∧ (k = 2 → P = s - E.h3 - E.h2) ∧ (k = 3 → P = s - E.h3 - E.h2 - E.h1) ∧ (1 ≤ k → ¬ s ≤ E.h3) ∧ (2 ≤ k → ¬ s - E.h3 ≤ E.h2) ∧ (3 ≤ k → ¬ s - E.h3 - E.h2 ≤ E.h1) ∧ (4 ≤ k → ¬ s - E.h3 - E.h2 - E.h1 ≤ E.h0)) (fun _ i => (intOf i + 1).toNat)
  case atStart => exact ⟨0, s, by omega, by simp, by first | rfl | rw [hs], fun _ => rfl, fun h => absurd h (by omega), fun h => absurd h (by omega), fun h => absurd h (by omega), fun h => absurd h (by omega), fun h => absurd h (by omega), fun h => absurd h (by omega), fun h => absurd h (by omega)⟩
  case round =>
    obtain ⟨k, P, hk, rfl, rfl, g0, g1, g2, g3, n1, n2, n3, n4⟩ := hrel
    clear hs
    have hk5 : k = 0 ∨ k = 1 ∨ k = 2 ∨ k = 3 ∨ k = 4 := by omega
    rcases hk5 with rfl | rfl | rfl | rfl | rfl
    · obtain rfl : s = P := (g0 rfl).symm
      clear g0 g1 g2 g3 n1 n2 n3 n4
      rw [show (3 : Int) - ((0 : Nat) : Int) = 3 from by omega]
      by_cases hlt : s ≤ E.h3
      · have HF : Hid (V = 4) := Lib.hid (by rw [HVT.out]; unfold Pl.sb; rw [if_pos hlt])
        go_wp2
        go_ret2
        exact ⟨by rw [HF.out, HR.out]; rfl, hB4⟩
      · have kk : IntKind.i64.wrap (s - E.h3) = s - E.h3 := IntWalk.i64_in _ (by omega)
        go_wp2
        go_round
        case rel => exact ⟨1, _, by omega, by simp, rfl, (fun h => absurd h (by omega)), (fun _ => by first | rfl | omega), (fun h => absurd h (by omega)), (fun h => absurd h (by omega)), (fun _ => by omega), (fun h => absurd h (by omega)), (fun h => absurd h (by omega)), (fun h => absurd h (by omega))⟩
        case measure => simp [intOf]
    · obtain rfl : s - E.h3 = P := (g1 rfl).symm
      have m1 := n1 (by omega)
      clear g0 g1 g2 g3 n1 n2 n3 n4
      rw [show (3 : Int) - ((1 : Nat) : Int) = 2 from by omega]
      by_cases hlt : s - E.h3 ≤ E.h2
      · have HF : Hid (V = 3) := Lib.hid (by rw [HVT.out]; unfold Pl.sb; rw [if_neg m1, if_pos hlt])
        go_wp2
        go_ret2
        exact ⟨by rw [HF.out, HR.out]; rfl, hB4⟩
      · have kk : IntKind.i64.wrap (s - E.h3 - E.h2) = s - E.h3 - E.h2 := IntWalk.i64_in _ (by omega)
        go_wp2
        go_round
        case rel => exact ⟨2, _, by omega, by simp, rfl, (fun h => absurd h (by omega)), (fun h => absurd h (by omega)), (fun _ => by first | rfl | omega), (fun h => absurd h (by omega)), (fun _ => by omega), (fun _ => by omega), (fun h => absurd h (by omega)), (fun h => absurd h (by omega))⟩
        case measure => simp [intOf]
    · obtain rfl : s - E.h3 - E.h2 = P := (g2 rfl).symm
      have m1 := n1 (by omega)
      have m2 := n2 (by omega)
      clear g0 g1 g2 g3 n1 n2 n3 n4
      rw [show (3 : Int) - ((2 : Nat) : Int) = 1 from by omega]
      by_cases hlt : s - E.h3 - E.h2 ≤ E.h1
      · have HF : Hid (V = 2) := Lib.hid (by rw [HVT.out]; unfold Pl.sb; rw [if_neg m1, if_neg m2, if_pos hlt])
        go_wp2
        go_ret2
        exact ⟨by rw [HF.out, HR.out]; rfl, hB4⟩
      · have kk : IntKind.i64.wrap (s - E.h3 - E.h2 - E.h1) = s - E.h3 - E.h2 - E.h1 := IntWalk.i64_in _ (by omega)
        go_wp2
        go_round
        case rel => exact ⟨3, _, by omega, by simp, rfl, (fun h => absurd h (by omega)), (fun h => absurd h (by omega)), (fun h => absurd h (by omega)), (fun _ => by first | rfl | omega), (fun _ => by omega), (fun _ => by omega), (fun _ => by omega), (fun h => absurd h (by omega))⟩
        case measure => simp [intOf]
    · obtain rfl : s - E.h3 - E.h2 - E.h1 = P := (g3 rfl).symm
      have m1 := n1 (by omega)
      have m2 := n2 (by omega)
      have m3 := n3 (by omega)
      clear g0 g1 g2 g3 n1 n2 n3 n4
      rw [show (3 : Int) - ((3 : Nat) : Int) = 0 from by omega]
      by_cases hlt : s - E.h3 - E.h2 - E.h1 ≤ E.h0
      · have HF : Hid (V = 1) := Lib.hid (by rw [HVT.out]; unfold Pl.sb; rw [if_neg m1, if_neg m2, if_neg m3, if_pos hlt])
        go_wp2
        go_ret2
        exact ⟨by rw [HF.out, HR.out]; rfl, hB4⟩
      · have kk : IntKind.i64.wrap (s - E.h3 - E.h2 - E.h1 - E.h0) = s - E.h3 - E.h2 - E.h1 - E.h0 := IntWalk.i64_in _ (by omega)
        go_wp2
        go_round
        case rel => exact ⟨4, _, by omega, by simp, rfl, (fun h => absurd h (by omega)), (fun h => absurd h (by omega)), (fun h => absurd h (by omega)), (fun h => absurd h (by omega)), (fun _ => by omega), (fun _ => by omega), (fun _ => by omega), (fun _ => by omega)⟩
        case measure => simp [intOf]
    · have m1 := n1 (by omega)
      have m2 := n2 (by omega)
      have m3 := n3 (by omega)
      have m4 := n4 (by omega)
      have HF : Hid (V = 0) := Lib.hid (by rw [HVT.out]; unfold Pl.sb; rw [if_neg m1, if_neg m2, if_neg m3, if_neg m4])
      clear g0 g1 g2 g3 n1 n2 n3 n4
      rw [show (3 : Int) - ((4 : Nat) : Int) = -1 from by omega]
      go_wp2
      go_ret2
      exact ⟨by rw [HF.out, HR.out]; rfl, hB4⟩
end Go.Proofs.Ytlfbfdhdkccaeaa
