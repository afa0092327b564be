/- cheapest, Cheapest, of the program; cents, Price, Cheapest, of the document. -/
import Derived.Test.YtdihnbjmeppbcaaDoorWK
import Derived.Test.YtdihnbjmeppbcaaDoorWI
namespace Go.Proofs.YtdihnbjmeppbcaaDoor
open Go.RowKit Go.Shelf

set_option maxRecDepth 100000 in
set_option maxHeartbeats 8000000 in
theorem cheapest_b (A : Option Addr) (l : List Pl.Stp) (c m : Nat) (hm : l.length = m) (hst : Pl.Vst l) (n : Int) (hn1 : 1 ≤ n) (hn2 : n ≤ 100000) (w : World) (hI : Rows stL 2 w A l) :
    Calls Tryd.prog 64 #[.slice A m c, .int .i64 n] w fun e w' => e = .returned (.tuple #[.int .i64 (Pl.chp l n m).1, .int .i64 (Pl.chp l n m).2]) ∧ Below w.heap.size w w' := by
  have hm8 : m ≤ 8 := by rw [← hm]; exact hst.n1
  have hcen := Pl.cen_in hst.ok n (k := m) (by omega)
  obtain ⟨t, ht⟩ : ∃ t, Pl.cen l n m = t := ⟨_, rfl⟩
  rw [ht] at hcen
  have hp := Pl.mul_le (A := 100000) (show -100000 ≤ n by omega) hn2 hcen.1 hcen.2 (by decide)
  have kp : IntKind.i64.wrap (n * t) = n * t := IntWalk.i64_in _ (by omega)
  have HC := Lib.hid (cents_b A l c m hm (by unfold maxLen; omega) n t ht w hI)
  have HI := Lib.hid hI
  have HM := Lib.hid hm
  have HSI := Lib.hid (Pl.sok_in hst)
  have HZ : Hid (Pl.chp l n 0 = (n, n * t)) := Lib.hid (by rw [← ht, ← hm]; rfl)
  obtain ⟨R, hR⟩ : ∃ R, Pl.chp l n m = R := ⟨_, rfl⟩
  have HRR := Lib.hid hR
  rw [hR]
  clear hI hm hst hcen hp ht hR
  go_enter Tryd.func64, Tryd.ntmps64
  go_wp2_with fail
  refine HC.out.mono ?_
  rintro e w1 ⟨rfl, hb⟩
  go_wp2
  go_loopw [6, 7, 18] (fun a b i wr => ∃ k : Nat, ∃ N C : Int, k ≤ m ∧ i = .int .i64 k ∧ a = .int .i64 N ∧ b = .int .i64 C ∧ Hid (Pl.chp l n k = (N, C)) ∧ Below w.heap.size w wr) (fun _ _ i _ => m - (intOf i).toNat)
  case atStart => exact ⟨0, n, n * t, Nat.zero_le _, rfl, rfl, rfl, HZ, hb⟩
  case round =>
    obtain ⟨k, N, C, hk, rfl, rfl, rfl, hS, hW⟩ := hrel
    obtain ⟨wo, rfl⟩ : ∃ wo, wo = wr := ⟨_, rfl⟩
    by_cases hlt : k < m
    · have hltI : (k : Int) < (m : Int) := by omega
      have hkx : k < l.length := by rw [HM.out]; exact hlt
      obtain ⟨bx, ox, rfl, hbx, hcx⟩ := HI.out.open (by omega)
      have hr := row_at hbx hcx hW hkx
      have HST := Lib.hid (Pl.chp_step (n := n) hkx)
      rw [hS.out] at HST
      have hin := Pl.prod_in (HSI.out k hkx)
      clear hcx
      generalize l[k] = x at *
      have kq : IntKind.i64.wrap (x.c * x.m) = x.c * x.m := IntWalk.i64_in _ (by omega)
      have bE := Blk.new wo 95 (stA x)
      have hBE := hW.alloc hW.size (.cells (stA x) 95)
      have e0 := bE.cell 0
      have e1 := bE.cell 1
      have HE := Lib.hid bE
      have hEl := bE.lt
      clear hW bE hin
      by_cases hc : x.c > n
      rotate_left
      · have HN : Hid (Pl.chp l n (k + 1) = (N, C)) := Lib.hid (by rw [HST.out, if_neg (fun h => hc h.1)])
        have d1 : decide (x.c > n) = false := decide_eq_false hc
        go_wp2_with (refine ldm_st hr rfl _ rfl rfl ?_)
        go_roundw
        case rel => exact ⟨k + 1, N, C, by omega, by go_num, rfl, rfl, HN, hBE⟩
        case measure => simp [intOf]; omega
      have d1 : decide (x.c > n) = true := decide_eq_true hc
      by_cases hC : x.c * x.m < C
      rotate_left
      · have HN : Hid (Pl.chp l n (k + 1) = (N, C)) := Lib.hid (by rw [HST.out, if_neg (fun h => hC h.2)])
        have d2 : decide (x.c * x.m < C) = false := decide_eq_false hC
        go_wp2_with (refine ldm_st hr rfl _ rfl rfl ?_)
        go_roundw
        case rel => exact ⟨k + 1, N, C, by omega, by go_num, rfl, rfl, HN, hBE⟩
        case measure => simp [intOf]; omega
      have HN : Hid (Pl.chp l n (k + 1) = (x.c, x.c * x.m)) := Lib.hid (by rw [HST.out, if_pos ⟨hc, hC⟩])
      have d2 : decide (x.c * x.m < C) = true := decide_eq_true hC
      generalize hwE : wo.alloc (.cells (stA x) 95) = wE at *
      have z0 := fun s : Ext wE => s.cell (p := ⟨wo.heap.size, 0, none⟩) e0
      have z1 := fun s : Ext wE => s.cell (p := ⟨wo.heap.size, 1, none⟩) e1
      go_wp2_with (refine ldm_st hr rfl _ rfl rfl ?_)
      refine wp_region_ext (by kernel_rfl) (by kernel_rfl) ?_
      repeat (go_big_quiet_step (fail))
      refine wpQuiet_nil ?_
      rintro _ ⟨s, rfl⟩
      have hV2 := hBE.trans (s.h.mono hBE.size)
      go_wp2
      go_roundw
      case rel => exact ⟨k + 1, x.c, x.c * x.m, by omega, by go_num, rfl, rfl, HN, hV2⟩
      case measure => simp [intOf]; omega
    · obtain rfl : k = m := by omega
      have HE : Hid (R = (N, C)) := Lib.hid (by rw [← HRR.out, hS.out])
      go_wp2
      go_ret2
      exact ⟨by rw [HE.out]; rfl, hW⟩

set_option maxRecDepth 100000 in
set_option maxHeartbeats 4000000 in
theorem Cheapest_b (A : Option Addr) (l : List Pl.Pr) (c m : Nat) (hm : l.length = m) (n : ByteArray) (d q : Int) (w : World) (hI : PrsIn w A l c) :
    Calls Tryd.prog 23 #[.slice A m c, .string n, .int .i64 d, .int .i64 q] w fun e w' => e = .returned (.tuple #[.int .i64 (Pl.chN l n d q), .int .i64 (Pl.chS l n d q), .int .i64 (Pl.prG l n d q)]) ∧ Below w.heap.size w w' := by
  have H0 := Lib.hid (checkedSteps_b A l c m hm n d q w hI)
  have hM := prM_of hI (Pl.prF_mem l n d q)
  have HX : Hid (Pl.prG l n d q = 0 → Pl.Vst (Pl.prF l n d q).st ∧ 1 ≤ q ∧ q ≤ 100000) := Lib.hid (fun h => ⟨Pl.prF_st h, (Pl.prG_ok h).2.1, (Pl.prG_ok h).2.2.1⟩)
  obtain ⟨N, hU⟩ : ∃ N, Pl.chN l n d q = N := ⟨_, rfl⟩
  obtain ⟨S, hS⟩ : ∃ S, Pl.chS l n d q = S := ⟨_, rfl⟩
  rw [hU, hS]
  unfold Pl.chN at hU
  unfold Pl.chS at hS
  generalize Pl.prG l n d q = E at *
  generalize Pl.prF l n d q = F at *
  clear hI hm
  by_cases hE : E = 0
  · subst hE
    rw [if_pos rfl] at hU hS
    obtain ⟨h1, h2, h3⟩ := HX.out rfl
    have H1 := Lib.hid (fun w' (hb : Below w.heap.size w w') => cheapest_b _ _ F.k _ rfl h1 q h2 h3 w' (hM.rows.below hb))
    rw [hU, hS] at H1
    clear h1 h2 h3 hU hS hM HX
    go_enter Tryd.func23, Tryd.ntmps23
    go_wp2_with fail
    refine H0.out.mono ?_
    rintro e w1 ⟨rfl, hb⟩
    go_wp2_with fail
    refine (H1.out _ hb).mono ?_
    rintro e w2 ⟨rfl, hb2⟩
    have hB2 := hb.trans (hb2.mono hb.size)
    go_wp2
    exact bodyPost_ret (v := .tuple #[.int .i64 N, .int .i64 S, .int .i64 0]) (by simp [results, Tryd.results23, go_sem]) rfl ⟨rfl, hB2⟩
  · rw [if_neg hE] at hU hS
    subst hU hS
    clear hM HX
    go_enter Tryd.func23, Tryd.ntmps23
    go_wp2_with fail
    refine H0.out.mono ?_
    rintro e w1 ⟨rfl, hb⟩
    go_wp2
    exact bodyPost_ret (v := .tuple #[.int .i64 0, .int .i64 0, .int .i64 E]) (by simp [results, Tryd.results23, go_sem]) rfl ⟨rfl, hb⟩

set_option maxRecDepth 100000 in
set_option maxHeartbeats 4000000 in
theorem rcents_b (x : Pl.Pr) (n v : Int) (hv : Pl.cen x.st n x.st.length = v) (w : World) (hM : PrM w x) :
    Calls Tryd.prog 63 #[.agg (prA x), .int .i64 n] w fun e w' => e = .returned (.int .i64 v) ∧ Below w.heap.size w w' := by
  obtain ⟨m, hm⟩ : ∃ m, x.st.length = m := ⟨_, rfl⟩
  rw [hm] at hv
  have hm63 := max63 hM.len
  have hB := (Below.refl w.heap.size w).alloc (Nat.le_refl _) (.cells (prA x) 67)
  have bX := Blk.new w 67 (prA x)
  have HI := Lib.hid (hM.rows.below hB)
  have hpa : prA x = #[.string x.md, .int .i64 x.d, .slice x.a m x.k] := by rw [← hm]
  rw [hpa] at hB bX HI ⊢
  have p2 := bX.cell 2
  have HM := Lib.hid hm
  have HV := Lib.hid hv
  rw [hm] at hm63
  generalize x.a = xa at *
  generalize x.st = l at *
  generalize x.md = xm at *
  generalize x.d = xd at *
  generalize x.k = xk at *
  clear hM hv bX hm hpa
  go_enter Tryd.func63, Tryd.ntmps63
  go_wp2
  go_loop [5, 6] (fun t i => ∃ k : Nat, k ≤ m ∧ i = .int .i64 k ∧ t = .int .i64 (Pl.cen l n k)) (fun _ i => m - (intOf i).toNat)
  case atStart => exact ⟨0, Nat.zero_le _, rfl, rfl⟩
  case round =>
    obtain ⟨k, hk, rfl, rfl⟩ := hrel
    by_cases hlt : k < m
    · have hltI : (k : Int) < (m : Int) := by omega
      have hkx : k < l.length := by rw [HM.out]; exact hlt
      obtain ⟨bx, ox, rfl, hbx, hcx⟩ := HI.out.open (by omega)
      have hr := row_at hbx hcx (Below.refl _ _) hkx
      have HST := Lib.hid (Pl.cen_step (n := n) hkx)
      clear hcx
      generalize l[k] = y at *
      generalize Pl.cen l n k = t at *
      have q0 : _ = some (Value.int .i64 y.c) := hr 0 _ rfl
      have q1 : _ = some (Value.int .i64 y.m) := hr 1 _ rfl
      rw [Nat.add_zero] at q0
      clear hr
      by_cases hc : y.c ≤ n
      · have HN : Hid (Pl.cen l n (k + 1) = y.m) := Lib.hid (by rw [HST.out, if_pos hc])
        go_wp2
        go_round
        case rel => exact ⟨k + 1, by omega, by go_num, by rw [HN.out]⟩
        case measure => simp [intOf]; omega
      · have HN : Hid (Pl.cen l n (k + 1) = t) := Lib.hid (by rw [HST.out, if_neg hc])
        go_wp2
        go_round
        case rel => exact ⟨k + 1, by omega, by go_num, by rw [HN.out]⟩
        case measure => simp [intOf]; omega
    · obtain rfl : k = m := by omega
      rw [HV.out]
      go_wp2
      go_ret
      exact ⟨rfl, hB⟩

set_option maxRecDepth 100000 in
set_option maxHeartbeats 8000000 in
theorem rPrice_b (A : Option Addr) (l : List Pl.Pr) (c m : Nat) (hm : l.length = m) (n : ByteArray) (d q : Int) (w : World) (hI : PrsIn w A l c) :
    Calls Tryd.prog 22 #[.slice A m c, .string n, .int .i64 d, .int .i64 q] w fun e w' => e = .returned (.tuple #[.int .i64 (Pl.prU l n d q), .int .i64 (Pl.prG l n d q)]) ∧ Below w.heap.size w w' := by
  obtain ⟨x0, h0⟩ : ∃ x, Pl.vps l = x := ⟨_, rfl⟩
  obtain ⟨x1, h1⟩ : ∃ x, Pl.dy d = x := ⟨_, rfl⟩
  have H0 := Lib.hid (rvprices_b A l c m hm x0 h0 w hI)
  have H1 := Lib.hid (fun w' : World => rdy_b d x1 h1 w')
  have HNU : Hid (∀ E, Pl.prG l n d q = E → E ≠ 0 → Pl.prU l n d q = 0) := Lib.hid (fun E h hE => Pl.prU_no (by rw [h]; exact hE))
  obtain ⟨U, hU⟩ : ∃ U, Pl.prU l n d q = U := ⟨_, rfl⟩
  obtain ⟨E, hE⟩ : ∃ E, Pl.prG l n d q = E := ⟨_, rfl⟩
  have HNZ := Lib.hid (HNU.out E hE)
  rw [hU] at HNZ
  rw [hU, hE]
  have hGE := hE
  unfold Pl.prG at hE
  rw [h0, h1, hm] at hE
  cases x0
  · have e2 : 80 = E := hE
    subst e2
    have HZ := Lib.hid (HNZ.out (by decide))
    rw [HZ.out]
    clear h0 h1 hI hm hE hU HNU hGE HNZ
    go_enter Tryd.func22, Tryd.ntmps22
    go_wp2_with fail
    refine H0.out.mono ?_
    rintro e w1 ⟨rfl, hb⟩
    go_wp2
    go_ret2
    exact ⟨rfl, hb⟩
  cases x1
  · have e2 : 2 = E := hE
    subst e2
    have HZ := Lib.hid (HNZ.out (by decide))
    rw [HZ.out]
    clear h0 h1 hI hm hE hU HNU hGE HNZ
    go_enter Tryd.func22, Tryd.ntmps22
    go_wp2_with fail
    refine H0.out.mono ?_
    rintro e w1 ⟨rfl, hb⟩
    go_wp2_with fail
    refine (H1.out _).mono ?_
    rintro e w2 ⟨rfl, hw2⟩
    subst hw2
    go_wp2
    go_ret2
    exact ⟨rfl, hb⟩
  by_cases q1 : q < 1
  · have e2 : 2 = E := by rw [show Pl.inB 1 q 100000 = false from Pl.inB_false.2 (by omega)] at hE; exact hE
    subst e2
    have HZ := Lib.hid (HNZ.out (by decide))
    rw [HZ.out]
    have d1 : decide (q < 1) = true := decide_eq_true q1
    clear h0 h1 hI hm hE hU HNU hGE HNZ
    go_enter Tryd.func22, Tryd.ntmps22
    go_wp2_with fail
    refine H0.out.mono ?_
    rintro e w1 ⟨rfl, hb⟩
    go_wp2_with fail
    refine (H1.out _).mono ?_
    rintro e w2 ⟨rfl, hw2⟩
    subst hw2
    go_wp2
    go_ret2
    exact ⟨rfl, hb⟩
  have d1 : decide (q < 1) = false := decide_eq_false q1
  by_cases q2 : q > 100000
  · have e2 : 2 = E := by rw [show Pl.inB 1 q 100000 = false from Pl.inB_false.2 (by omega)] at hE; exact hE
    subst e2
    have HZ := Lib.hid (HNZ.out (by decide))
    rw [HZ.out]
    have d2 : decide (q > 100000) = true := decide_eq_true q2
    clear h0 h1 hI hm hE hU HNU hGE HNZ
    go_enter Tryd.func22, Tryd.ntmps22
    go_wp2_with fail
    refine H0.out.mono ?_
    rintro e w1 ⟨rfl, hb⟩
    go_wp2_with fail
    refine (H1.out _).mono ?_
    rintro e w2 ⟨rfl, hw2⟩
    subst hw2
    go_wp2
    go_ret2
    exact ⟨rfl, hb⟩
  have d2 : decide (q > 100000) = false := decide_eq_false q2
  have hq : Pl.inB 1 q 100000 = true := Pl.inB_true.2 (by omega)
  rw [hq] at hE
  replace hE : Pl.soE (Pl.lt (l.map Pl.pk) n d m) = E := hE
  have h0' := h0
  rw [Pl.vps_eq, Pl.vls_true] at h0'
  have HL := Lib.hid (fun w' (hb : Below w.heap.size w w') => rpriceOf_b A l c m hm (by omega) (fun x hx => by
    obtain ⟨i, hi, rfl⟩ := List.getElem_of_mem hx
    exact (Pl.vp_true.1 (h0'.2.1 i hi)).d0) n d w' (hI.rows.below hb))
  obtain ⟨r, hr⟩ : ∃ r, Pl.lt (l.map Pl.pk) n d m = r := ⟨_, rfl⟩
  rw [hr] at hE HL
  cases r with
  | none =>
    have e2 : 82 = E := hE
    subst e2
    have HZ := Lib.hid (HNZ.out (by decide))
    rw [HZ.out]
    have ea : Pl.ati none = -1 := rfl
    rw [ea] at HL
    clear h0 h0' h1 hI hm hE hU HNU hGE HNZ hr hq
    go_enter Tryd.func22, Tryd.ntmps22
    go_wp2_with fail
    refine H0.out.mono ?_
    rintro e w1 ⟨rfl, hb⟩
    go_wp2_with fail
    refine (H1.out _).mono ?_
    rintro e w2 ⟨rfl, hw2⟩
    subst hw2
    go_wp2_with fail
    refine (HL.out _ hb).mono ?_
    rintro e w3 ⟨rfl, hb3⟩
    have hB3 := hb.trans (hb3.mono hb.size)
    go_wp2
    go_ret2
    exact ⟨rfl, hB3⟩
  | some j =>
    have e2 : 0 = E := hE
    subst e2
    have hj : j < l.length := by rw [hm]; exact Pl.lt_lt hr
    have hjI : (j : Int) < (m : Int) := by omega
    have hF : Pl.prF l n d q = l[j] := by
      unfold Pl.prF
      rw [h0, if_pos rfl, h1, hq, if_pos (by rfl), hm, hr, Pl.fnd_some hj]
    have hM := prM_of hI (.inr (List.getElem_mem hj))
    have HU : Hid (Pl.cen l[j].st q l[j].st.length = U) := Lib.hid (by rw [← hU]; unfold Pl.prU; rw [hF])
    have ea : Pl.ati (some j) = (j : Int) := rfl
    rw [ea] at HL
    have hj0 : decide ((j : Int) < 0) = false := decide_eq_false (by omega)
    obtain ⟨bx, ox, rfl, hbx, hcx⟩ := hI.rows.open (by omega)
    have hrx := hcx j hj
    clear h0 h0' h1 hI hm hE hU HNU hGE HNZ hr hq hF hcx
    generalize l[j] = x at *
    have HC := Lib.hid (fun w' (hb : Below w.heap.size w w') => rcents_b x q U HU.out w' (hM.below hb))
    clear hM HU
    go_enter Tryd.func22, Tryd.ntmps22
    go_wp2_with fail
    refine H0.out.mono ?_
    rintro e w1 ⟨rfl, hb⟩
    go_wp2_with fail
    refine (H1.out _).mono ?_
    rintro e w2 ⟨rfl, hw2⟩
    subst hw2
    go_wp2_with fail
    refine (HL.out _ hb).mono ?_
    rintro e w3 ⟨rfl, hb3⟩
    have hB3 := hb.trans (hb3.mono hb.size)
    have hr3 := rangeAt_below hrx hbx hB3
    clear hb hb3
    go_wp2_with (refine ldm_pr hr3 rfl _ rfl rfl ?_)
    refine (HC.out _ hB3).mono ?_
    rintro e w4 ⟨rfl, hb4⟩
    have hB4 := hB3.trans (hb4.mono hB3.size)
    go_wp2
    go_ret2
    exact ⟨rfl, hB4⟩

set_option maxRecDepth 100000 in
set_option maxHeartbeats 8000000 in
theorem rCheapest_b (A : Option Addr) (l : List Pl.Pr) (c m : Nat) (hm : l.length = m) (n : ByteArray) (d q : Int) (w : World) (hI : PrsIn w A l c) :
    Calls Tryd.prog 24 #[.slice A m c, .string n, .int .i64 d, .int .i64 q] w fun e w' => e = .returned (.tuple #[.int .i64 (Pl.chN l n d q), .int .i64 (Pl.chS l n d q), .int .i64 (Pl.prG l n d q)]) ∧ Below w.heap.size w w' := by
  have H0 := Lib.hid (rPrice_b A l c m hm n d q w hI)
  obtain ⟨U, hU⟩ : ∃ U, Pl.prU l n d q = U := ⟨_, rfl⟩
  obtain ⟨E, hE⟩ : ∃ E, Pl.prG l n d q = E := ⟨_, rfl⟩
  obtain ⟨N, hN⟩ : ∃ N, Pl.chN l n d q = N := ⟨_, rfl⟩
  obtain ⟨S, hS⟩ : ∃ S, Pl.chS l n d q = S := ⟨_, rfl⟩
  rw [hU, hE] at H0
  rw [hN, hS, hE]
  unfold Pl.chN at hN
  unfold Pl.chS at hS
  rw [hE] at hN hS
  by_cases h0 : E = 0
  rotate_left
  · rw [if_neg h0] at hN hS
    subst hN hS
    clear hI hm hE hU
    go_enter Tryd.func24, Tryd.ntmps24
    go_wp2_with fail
    refine H0.out.mono ?_
    rintro e w1 ⟨rfl, hb⟩
    go_wp2
    exact bodyPost_ret (v := .tuple #[.int .i64 0, .int .i64 0, .int .i64 E]) (by simp [results, Tryd.results24, go_sem]) rfl ⟨rfl, hb⟩
  subst h0
  rw [if_pos rfl] at hN hS
  have hst := Pl.prF_st hE
  obtain ⟨hvp, hq1, hq2, hmem, j, hj⟩ := Pl.prG_ok hE
  have hjl : j < l.length := Pl.lt_lt hj
  have hjI : (j : Int) < (m : Int) := by omega
  have hvp' := hvp
  rw [Pl.vps_eq, Pl.vls_true] at hvp'
  have hF : Pl.prF l n d q = l[j] := by
    have hq : (Pl.dy d && Pl.inB 1 q 100000) = true := by
      unfold Pl.prG at hE
      rw [if_pos hvp] at hE
      by_cases h : (Pl.dy d && Pl.inB 1 q 100000) = true
      · exact h
      · rw [if_neg h] at hE; cases hE
    unfold Pl.prF
    rw [if_pos hvp, if_pos hq, hj, Pl.fnd_some hjl]
  have HL := Lib.hid (fun w' (hb : Below w.heap.size w w') => rpriceOf_b A l c m hm (by omega) (fun x hx => by
    obtain ⟨i, hi, rfl⟩ := List.getElem_of_mem hx
    exact (Pl.vp_true.1 (hvp'.2.1 i hi)).d0) n d w' (hI.rows.below hb))
  rw [hm] at hj
  rw [hj] at HL
  have ea : Pl.ati (some j) = (j : Int) := rfl
  rw [ea] at HL
  have hM := prM_of hI (.inr (List.getElem_mem hjl))
  obtain ⟨bx, ox, rfl, hbx, hcx⟩ := hI.rows.open (by omega)
  have hrx := hcx j hjl
  have hcen : Pl.cen l[j].st q l[j].st.length = U := by rw [← hU]; unfold Pl.prU; rw [hF]
  rw [hF] at hN hS hst
  clear hvp hvp' hmem hI hm hE hU hF hj hcx
  generalize l[j] = x at *
  obtain ⟨xm, xd, xs, xa, xk⟩ := x
  have hz63 := max63 hM.len
  have HIS := Lib.hid hM.rows
  simp only at hN hS hcen hst hz63 HIS
  have hin := Pl.cen_in hst.ok q (k := xs.length) (Nat.le_refl _)
  rw [hcen] at hin
  have hp := Pl.mul_le (A := 100000) (show -100000 ≤ q by omega) hq2 hin.1 hin.2 (by decide)
  have kp : IntKind.i64.wrap (q * U) = q * U := IntWalk.i64_in _ (by omega)
  have HSI := Lib.hid (Pl.sok_in hst)
  have HZ0 : Hid (Pl.chp xs q 0 = (q, q * U)) := Lib.hid (by rw [← hcen]; rfl)
  have HNN := Lib.hid hN
  have HSS := Lib.hid hS
  clear hN hS hcen hin hp hst hM
  go_enter Tryd.func24, Tryd.ntmps24
  go_wp2_with fail
  refine H0.out.mono ?_
  rintro e w1 ⟨rfl, hb⟩
  go_wp2_with fail
  refine (HL.out _ hb).mono ?_
  rintro e w2 ⟨rfl, hb2⟩
  have hB2 := hb.trans (hb2.mono hb.size)
  have hr3 := rangeAt_below hrx hbx hB2
  have bP := Blk.new w2 67 #[.string xm, .int .i64 xd, .slice xa xs.length xk]
  have hB3 := hB2.alloc hB2.size (.cells #[.string xm, .int .i64 xd, .slice xa xs.length xk] 67)
  have HP := Lib.hid bP
  have HB3 := Lib.hid hB3
  have hgl : w.heap.size ≤ w2.heap.size := hB2.size
  clear hb hb2 hB2 bP hB3 hrx
  obtain ⟨g, hg⟩ : ∃ g, g = w2.heap.size := ⟨_, rfl⟩
  rw [← hg] at HP hgl
  go_wp2_with (refine ldm_pr hr3 rfl _ rfl rfl ?_)
  rw [← hg]
  clear hg
  go_loopw [13, 14, 16] (fun a b i wr => ∃ k : Nat, ∃ N' C : Int, k ≤ xs.length ∧ i = .int .i64 k ∧ a = .int .i64 N' ∧ b = .int .i64 C ∧ Hid (Pl.chp xs q k = (N', C)) ∧ Blk wr g 67 #[.string xm, .int .i64 xd, .slice xa xs.length xk] ∧ Below w.heap.size w wr) (fun _ _ i _ => xs.length - (intOf i).toNat)
  case atStart => exact ⟨0, q, q * U, Nat.zero_le _, rfl, rfl, rfl, HZ0, HP.out, HB3.out⟩
  case round =>
    obtain ⟨k, N', C, hk, rfl, rfl, rfl, hS, bP, hW⟩ := hrel
    obtain ⟨wo, rfl⟩ : ∃ wo, wo = wr := ⟨_, rfl⟩
    have p2 := bP.cell 2
    by_cases hlt : k < xs.length
    · have hltI : (k : Int) < (xs.length : Int) := by omega
      have hkx : k < xs.length := hlt
      obtain ⟨by', oy, rfl, hby, hcy⟩ := HIS.out.open (by omega)
      have hr := row_at hby hcy hW hkx
      have HST := Lib.hid (Pl.chp_step (n := q) hkx)
      rw [hS.out] at HST
      have hin := Pl.prod_in (HSI.out k hkx)
      clear hcy
      generalize xs[k] = y at *
      have kq : IntKind.i64.wrap (y.c * y.m) = y.c * y.m := IntWalk.i64_in _ (by omega)
      have bE := Blk.new wo 95 (stA y)
      have bP2 := bP.alloc (.cells (stA y) 95)
      have hBE := hW.alloc hW.size (.cells (stA y) 95)
      have e0 := bE.cell 0
      have e1 := bE.cell 1
      clear hW bE hin bP
      by_cases hc : y.c > q
      rotate_left
      · have HN : Hid (Pl.chp xs q (k + 1) = (N', C)) := Lib.hid (by rw [HST.out, if_neg (fun h => hc h.1)])
        have d1 : decide (y.c > q) = false := decide_eq_false hc
        go_wp2_with (refine ldm_st hr rfl _ rfl rfl ?_)
        go_roundw
        case rel => exact ⟨k + 1, N', C, by omega, by go_num, rfl, rfl, HN, bP2, hBE⟩
        case measure => simp [intOf]; omega
      have d1 : decide (y.c > q) = true := decide_eq_true hc
      by_cases hC : y.c * y.m < C
      rotate_left
      · have HN : Hid (Pl.chp xs q (k + 1) = (N', C)) := Lib.hid (by rw [HST.out, if_neg (fun h => hC h.2)])
        have d2 : decide (y.c * y.m < C) = false := decide_eq_false hC
        go_wp2_with (refine ldm_st hr rfl _ rfl rfl ?_)
        go_roundw
        case rel => exact ⟨k + 1, N', C, by omega, by go_num, rfl, rfl, HN, bP2, hBE⟩
        case measure => simp [intOf]; omega
      have HN : Hid (Pl.chp xs q (k + 1) = (y.c, y.c * y.m)) := Lib.hid (by rw [HST.out, if_pos ⟨hc, hC⟩])
      have d2 : decide (y.c * y.m < C) = true := decide_eq_true hC
      generalize hwE : wo.alloc (.cells (stA y) 95) = wE at *
      have z0 := fun s : Ext wE => s.cell (p := ⟨wo.heap.size, 0, none⟩) e0
      have z1 := fun s : Ext wE => s.cell (p := ⟨wo.heap.size, 1, none⟩) e1
      have hPl := bP2.lt
      go_wp2_with (refine ldm_st hr rfl _ rfl rfl ?_)
      refine wp_region_ext (by kernel_rfl) (by kernel_rfl) ?_
      repeat (go_big_quiet_step (fail))
      refine wpQuiet_nil ?_
      rintro _ ⟨s, rfl⟩
      have hV2 := hBE.trans (s.h.mono hBE.size)
      have bP3 := bP2.below s.h hPl
      go_wp2
      go_roundw
      case rel => exact ⟨k + 1, y.c, y.c * y.m, by omega, by go_num, rfl, rfl, HN, bP3, hV2⟩
      case measure => simp [intOf]; omega
    · obtain rfl : k = xs.length := by omega
      have E1 : Hid (N = N') := Lib.hid (by rw [← HNN.out, hS.out])
      have E2 : Hid (S = C) := Lib.hid (by rw [← HSS.out, hS.out])
      go_wp2
      exact bodyPost_ret (v := .tuple #[.int .i64 N', .int .i64 C, .int .i64 0]) (by simp [results, Tryd.results24, go_sem]) rfl ⟨by rw [E1.out, E2.out], hW⟩
end Go.Proofs.YtdihnbjmeppbcaaDoor
