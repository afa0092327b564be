/- Services, of the program and of the document. -/
import Derived.Test.YtdnfipeadoiepaaG3
namespace Go.Proofs.Ytdnfipeadoiepaa
open Go.RowKit Go.Shelf

theorem Blk.drewN {w : World} {g : Nat} {t : TypeId} {cs : Array Value} (h : Blk w g t cs) {n : Nat} : Blk (w.drewN n) g t cs := h
theorem Below.drewN' {B : Nat} {w w' : World} (h : Below B w w') {n : Nat} : Below B w (w'.drewN n) := ⟨h.os, h.tape, h.output, h.size, h.block⟩
/-- the state of the loop of Services -/
structure Sst (h : Pl.Hg) (least : Int) (N : Nat) (R : Option Int) (w : World) (T : Nat) (wr : World) (k : Nat) (s f : Int) : Prop where
  kN : k ≤ N
  s1 : 0 ≤ s
  s2 : s ≤ k
  fb : 0 ≤ f ∧ f ≤ 10000
  eq : Pl.sv h least (N - k) s f = R
  b : Blk wr T 55 (hgA h)
  B : Below w.heap.size w wr


set_option maxRecDepth 100000 in
set_option maxHeartbeats 8000000 in
theorem Services_any (h : Pl.Hg) (n least : Int) (w : World) :
    Calls Try.prog 45 #[.agg (hgA h), .int .i64 n, .int .i64 least] w fun e w' => e = .returned (.tuple #[.int .i64 (Pl.svN (Pl.svO h n least)), .int .i64 (Pl.svE (Pl.ckh h 0 n least) (Pl.svO h n least))]) ∧ Below w.heap.size w w' := by
  have hB := (Below.refl w.heap.size w).alloc (Nat.le_refl _) (.cells (hgA h) 55)
  have bT := Blk.new w 55 (hgA h)
  have hr := bT.range
  obtain ⟨e, hc⟩ : ∃ e, Pl.ckh h 0 n least = e := ⟨_, rfl⟩
  have HC := Lib.hid (checkhinge_b h 0 n least e hc)
  by_cases h0 : e = 0
  · subst h0
    obtain ⟨hv, _, hn, _⟩ := Pl.ckh_ok hc
    obtain ⟨N, rfl⟩ : ∃ N : Nat, n = N := ⟨n.toNat, by omega⟩
    obtain ⟨R, hR⟩ : ∃ R, Pl.sv h least N 0 h.start = R := ⟨_, rfl⟩
    have HV : Hid (Pl.svO h N least = R) := Lib.hid (by unfold Pl.svO; rw [if_pos hc, Int.toNat_natCast]; exact hR)
    rw [HV.out, hc]
    have HR := Lib.hid hR
    have HVh := Lib.hid hv
    have hN : N ≤ 100000 := by omega
    have HS : Hid (h.start ≤ 10000 ∧ 1 ≤ h.start) := Lib.hid ⟨hv.s2, hv.s1⟩
    clear hc hv hR hn
    go_enter Try.func45, Try.ntmps45
    go_wp2_with (refine ldm_hg hr rfl _ rfl rfl ?_)
    refine (HC.out _).mono ?_
    rintro e w1 ⟨rfl, hb1⟩
    have hB1 := hB.trans (hb1.mono hB.size)
    have bT1 := bT.below hb1 bT.lt
    have q1 := bT1.cell 1
    clear hb1 bT hB hr
    go_wp2
    go_quiet (fail)
    have hB2 : Below w.heap.size w (w1.drewN nq) := Below.drewN' hB1
    have bT2 : Blk (w1.drewN nq) w.heap.size 55 (hgA h) := Blk.drewN bT1
    clear q1 hB1 bT1
    go_wp2
    go_loopw [9, 10, 21] (fun vs vf i wr => ∃ k : Nat, ∃ s f : Int, i = .int .i64 k ∧ vs = .int .i64 s ∧ vf = .int .i64 f ∧ Sst h least N R w w.heap.size wr k s f) (fun _ _ i _ => N - (intOf i).toNat)
    case atStart => exact ⟨0, 0, h.start, rfl, rfl, rfl, Nat.zero_le _, by omega, by omega, by have := HS.out; omega, HR.out, bT2, hB2⟩
    case round =>
      clear hB2 bT2 HR
      obtain ⟨k, s, f, rfl, rfl, rfl, hst⟩ := hrel
      obtain ⟨hk, hs1, hs2, hf, heq, bT, hB⟩ := hst
      have HQ := Lib.hid heq
      clear heq
      by_cases hlt : k < N
      · have hr := bT.range
        have hbd := Pl.op1_bounds HVh.out hf.1
        have htg := Pl.tig_bounds HVh.out hf.1
        have hsx := HS.out
        have hbt := Pl.op1_bounds HVh.out htg.1
        have e1 : N - k = (N - (k + 1)) + 1 := by omega
        have ho := fun w' => opened_b h HVh.out f hf _ rfl w'
        have HO := Lib.hid ho
        have ho2 := fun w' => opened_b h HVh.out (Pl.tig h f) (by omega) _ rfl w'
        have HO2 := Lib.hid ho2
        have HTG := Lib.hid (fun w' => tightened_b h HVh.out f hf _ rfl w')
        have hss : IntKind.i64.wrap (s + 1) = s + 1 := IntWalk.i64_in _ (by omega)
        by_cases hl : Pl.op1 h f < least
        · by_cases hl2 : Pl.op1 h (Pl.tig h f) < least
          · have HE : Hid (R = none) := Lib.hid (by rw [← HQ.out, e1, sv_down hl hl2])
            have HH := Lib.hid (And.intro hbd (And.intro htg (And.intro hbt e1)))
            clear hbd htg hbt e1 ho ho2
            go_wp2_with (refine ldm_hg hr rfl _ rfl rfl ?_)
            refine (HO.out _).mono ?_
            rintro e w2 ⟨rfl, hb2⟩
            have hB3 := hB.trans (hb2.mono hB.size)
            have bT3 := bT.below hb2 bT.lt
            have hr3 := bT3.range
            clear hr hb2 hB bT
            go_wp2_with (refine ldm_hg hr3 rfl _ rfl rfl ?_)
            refine (HTG.out _).mono ?_
            rintro e w3 ⟨rfl, hb3⟩
            have hB5 := hB3.trans (hb3.mono hB3.size)
            have bT5 := bT3.below hb3 bT3.lt
            have hr5 := bT5.range
            clear hr3 hb3 hB3 bT3
            go_wp2_with (refine ldm_hg hr5 rfl _ rfl rfl ?_)
            refine (HO2.out _).mono ?_
            rintro e w4 ⟨rfl, hb4⟩
            have hB4 := hB5.trans (hb4.mono hB5.size)
            have bT4 := bT5.below hb4 bT5.lt
            clear hr5 hb4 hB5 bT5
            go_wp2
            go_ret2
            exact ⟨by rw [HE.out]; rfl, hB4⟩
          · have HE : Hid (Pl.sv h least (N - (k + 1)) (s + 1) (Pl.op1 h (Pl.tig h f)) = R) := Lib.hid (by rw [← HQ.out, e1, sv_tight hl hl2])
            have HH := Lib.hid (And.intro hbd (And.intro htg (And.intro hbt e1)))
            clear hbd htg hbt e1 ho ho2
            go_wp2_with (refine ldm_hg hr rfl _ rfl rfl ?_)
            refine (HO.out _).mono ?_
            rintro e w2 ⟨rfl, hb2⟩
            have hB3 := hB.trans (hb2.mono hB.size)
            have bT3 := bT.below hb2 bT.lt
            have hr3 := bT3.range
            clear hr hb2 hB bT
            go_wp2_with (refine ldm_hg hr3 rfl _ rfl rfl ?_)
            refine (HTG.out _).mono ?_
            rintro e w3 ⟨rfl, hb3⟩
            have hB5 := hB3.trans (hb3.mono hB3.size)
            have bT5 := bT3.below hb3 bT3.lt
            have hr5 := bT5.range
            clear hr3 hb3 hB3 bT3
            go_wp2_with (refine ldm_hg hr5 rfl _ rfl rfl ?_)
            refine (HO2.out _).mono ?_
            rintro e w4 ⟨rfl, hb4⟩
            have hB4 := hB5.trans (hb4.mono hB5.size)
            have bT4 := bT5.below hb4 bT5.lt
            clear hr5 hb4 hB5 bT5
            go_wp2
            go_roundw
            case rel => exact ⟨k + 1, s + 1, _, by go_num, rfl, rfl, hlt, by omega, by omega, by have := HH.out; have := HS.out; omega, HE.out, bT4, hB4⟩
            case measure => simp [intOf]; omega
        · have HE : Hid (Pl.sv h least (N - (k + 1)) s (Pl.op1 h f) = R) := Lib.hid (by rw [← HQ.out, e1, sv_on hl])
          have HH := Lib.hid (And.intro hbd (And.intro htg (And.intro hbt e1)))
          clear hbd htg hbt e1 ho ho2 hss
          go_wp2_with (refine ldm_hg hr rfl _ rfl rfl ?_)
          refine (HO.out _).mono ?_
          rintro e w2 ⟨rfl, hb2⟩
          have hB3 := hB.trans (hb2.mono hB.size)
          have bT3 := bT.below hb2 bT.lt
          have hr3 := bT3.range
          clear hr hb2 hB bT
          go_wp2_with (refine ldm_hg hr3 rfl _ rfl rfl ?_)
          refine (HO.out _).mono ?_
          rintro e w4 ⟨rfl, hb4⟩
          have hB4 := hB3.trans (hb4.mono hB3.size)
          have bT4 := bT3.below hb4 bT3.lt
          clear hr3 hb4 hB3 bT3
          go_wp2
          go_roundw
          case rel => exact ⟨k + 1, s, _, by go_num, rfl, rfl, hlt, hs1, by omega, by have := HH.out; omega, HE.out, bT4, hB4⟩
          case measure => simp [intOf]; omega
      · obtain rfl : k = N := by omega
        have HE : Hid (R = some s) := Lib.hid (by rw [← HQ.out, Nat.sub_self]; rfl)
        go_wp2
        go_ret2
        exact ⟨by rw [HE.out]; rfl, hB⟩
  · have h1 : (e != 0) = true := by simp [h0]
    have HV : Hid (Pl.svO h n least = some 0) := Lib.hid (by unfold Pl.svO; rw [if_neg (by rw [hc]; exact h0)])
    rw [HV.out, hc]
    clear h0 hc
    go_enter Try.func45, Try.ntmps45
    go_wp2_with (refine ldm_hg hr rfl _ rfl rfl ?_)
    refine (HC.out _).mono ?_
    rintro e w1 ⟨rfl, hb1⟩
    have hB1 := hB.trans (hb1.mono hB.size)
    have q1 := (bT.below hb1 bT.lt).cell 1
    go_wp2
    go_ret2
    exact ⟨rfl, hB1⟩

set_option maxRecDepth 100000 in
set_option maxHeartbeats 8000000 in
theorem rServices_any (h : Pl.Hg) (n least : Int) (w : World) :
    Calls Try.prog 46 #[.agg (hgA h), .int .i64 n, .int .i64 least] w fun e w' => e = .returned (.tuple #[.int .i64 (Pl.svN (Pl.svO h n least)), .int .i64 (Pl.svE (Pl.ckh h 0 n least) (Pl.svO h n least))]) ∧ Below w.heap.size w w' := by
  have hB := (Below.refl w.heap.size w).alloc (Nat.le_refl _) (.cells (hgA h) 55)
  have bT := Blk.new w 55 (hgA h)
  have hr := bT.range
  obtain ⟨x1, hx1⟩ : ∃ x, Pl.vhg h = x := ⟨_, rfl⟩
  have HC := Lib.hid (rvhinge_b h x1 hx1)
  have hc : Pl.ckh h 0 n least = if x1 = true then (if (Pl.inB 0 0 h.start && (Pl.inB 0 n 100000 && Pl.inB 0 least h.start)) = true then 0 else 2) else 41 := by unfold Pl.ckh; rw [hx1]
  cases x1
  · rw [if_neg (by simp)] at hc
    have HV : Hid (Pl.svO h n least = some 0) := Lib.hid (by unfold Pl.svO; rw [if_neg (by rw [hc]; decide)])
    rw [HV.out, hc]
    clear hc hx1
    go_enter Try.func46, Try.ntmps46
    go_wp2_with (refine ldm_hg hr rfl _ rfl rfl ?_)
    refine (HC.out _).mono ?_
    rintro e w1 ⟨rfl, hb1⟩
    have hB1 := hB.trans (hb1.mono hB.size)
    have q1 := (bT.below hb1 bT.lt).cell 1
    go_wp2
    go_ret2
    exact ⟨rfl, hB1⟩
  · have hv := Pl.vhg_true.1 hx1
    have hs := hv.s2
    have hs1 := hv.s1
    rw [if_pos rfl, show Pl.inB 0 0 h.start = true from Pl.inB_true.2 ⟨by omega, by omega⟩, Bool.true_and] at hc
    by_cases a0 : n < 0
    · rw [show Pl.inB 0 n 100000 = false from by unfold Pl.inB; rw [decide_eq_false (by omega)]; rfl, Bool.false_and, if_neg (by simp)] at hc
      have HV : Hid (Pl.svO h n least = some 0) := Lib.hid (by unfold Pl.svO; rw [if_neg (by rw [hc]; decide)])
      rw [HV.out, hc]
      clear hx1 hc hv
      go_enter Try.func46, Try.ntmps46
      go_wp2_with (refine ldm_hg hr rfl _ rfl rfl ?_)
      refine (HC.out _).mono ?_
      rintro e w1 ⟨rfl, hb1⟩
      have hB1 := hB.trans (hb1.mono hB.size)
      have q1 := (bT.below hb1 bT.lt).cell 1
      go_wp2
      go_ret2
      exact ⟨rfl, hB1⟩
    by_cases a1 : 100000 < n
    · rw [show Pl.inB 0 n 100000 = false from by unfold Pl.inB; rw [decide_eq_false (p := n ≤ 100000) (by omega), Bool.and_false], Bool.false_and, if_neg (by simp)] at hc
      have HV : Hid (Pl.svO h n least = some 0) := Lib.hid (by unfold Pl.svO; rw [if_neg (by rw [hc]; decide)])
      rw [HV.out, hc]
      clear hx1 hc hv
      go_enter Try.func46, Try.ntmps46
      go_wp2_with (refine ldm_hg hr rfl _ rfl rfl ?_)
      refine (HC.out _).mono ?_
      rintro e w1 ⟨rfl, hb1⟩
      have hB1 := hB.trans (hb1.mono hB.size)
      have q1 := (bT.below hb1 bT.lt).cell 1
      go_wp2
      go_ret2
      exact ⟨rfl, hB1⟩
    by_cases a2 : least < 0
    · rw [show Pl.inB 0 least h.start = false from by unfold Pl.inB; rw [decide_eq_false (by omega)]; rfl, Bool.and_false, if_neg (by simp)] at hc
      have HV : Hid (Pl.svO h n least = some 0) := Lib.hid (by unfold Pl.svO; rw [if_neg (by rw [hc]; decide)])
      rw [HV.out, hc]
      clear hx1 hc hv
      go_enter Try.func46, Try.ntmps46
      go_wp2_with (refine ldm_hg hr rfl _ rfl rfl ?_)
      refine (HC.out _).mono ?_
      rintro e w1 ⟨rfl, hb1⟩
      have hB1 := hB.trans (hb1.mono hB.size)
      have q1 := (bT.below hb1 bT.lt).cell 1
      go_wp2
      go_ret2
      exact ⟨rfl, hB1⟩
    by_cases a3 : h.start < least
    · rw [show Pl.inB 0 least h.start = false from by unfold Pl.inB; rw [decide_eq_false (p := least ≤ h.start) (by omega), Bool.and_false], Bool.and_false, if_neg (by simp)] at hc
      have HV : Hid (Pl.svO h n least = some 0) := Lib.hid (by unfold Pl.svO; rw [if_neg (by rw [hc]; decide)])
      rw [HV.out, hc]
      clear hx1 hc hv
      go_enter Try.func46, Try.ntmps46
      go_wp2_with (refine ldm_hg hr rfl _ rfl rfl ?_)
      refine (HC.out _).mono ?_
      rintro e w1 ⟨rfl, hb1⟩
      have hB1 := hB.trans (hb1.mono hB.size)
      have q1 := (bT.below hb1 bT.lt).cell 1
      go_wp2
      go_ret2
      exact ⟨rfl, hB1⟩
    · rw [show Pl.inB 0 n 100000 = true from Pl.inB_true.2 ⟨by omega, by omega⟩, show Pl.inB 0 least h.start = true from Pl.inB_true.2 ⟨by omega, by omega⟩, if_pos (by decide)] at hc
      obtain ⟨N, rfl⟩ : ∃ N : Nat, n = N := ⟨n.toNat, by omega⟩
      obtain ⟨R, hR⟩ : ∃ R, Pl.sv h least N 0 h.start = R := ⟨_, rfl⟩
      have HV : Hid (Pl.svO h N least = R) := Lib.hid (by unfold Pl.svO; rw [if_pos hc, Int.toNat_natCast]; exact hR)
      rw [HV.out, hc]
      have HR := Lib.hid hR
      have HVh := Lib.hid hv
      have hN : N ≤ 100000 := by omega
      have HS : Hid (h.start ≤ 10000 ∧ 1 ≤ h.start) := Lib.hid ⟨hv.s2, hv.s1⟩
      clear hx1 hc hv hR
      go_enter Try.func46, Try.ntmps46
      go_wp2_with (refine ldm_hg hr rfl _ rfl rfl ?_)
      refine (HC.out _).mono ?_
      rintro e w1 ⟨rfl, hb1⟩
      have hB1 := hB.trans (hb1.mono hB.size)
      have bT1 := bT.below hb1 bT.lt
      have q1 := bT1.cell 1
      clear hb1 bT hB hr
      go_wp2
      have hB2 := hB1
      have bT2 := bT1
      clear q1 hB1 bT1
      go_loopw [8, 9, 10] (fun vf vs i wr => ∃ k : Nat, ∃ s f : Int, i = .int .i64 k ∧ vs = .int .i64 s ∧ vf = .int .i64 f ∧ Sst h least N R w w.heap.size wr k s f) (fun _ _ i _ => N - (intOf i).toNat)
      case atStart => exact ⟨0, 0, h.start, rfl, rfl, rfl, Nat.zero_le _, by omega, by omega, by have := HS.out; omega, HR.out, bT2, hB2⟩
      case round =>
        clear hB2 bT2 HR
        obtain ⟨k, s, f, rfl, rfl, rfl, hst⟩ := hrel
        obtain ⟨hk, hs1, hs2, hf, heq, bT, hB⟩ := hst
        have HQ := Lib.hid heq
        clear heq
        by_cases hlt : k < N
        · have hr := bT.range
          have hbd := Pl.op1_bounds HVh.out hf.1
          have htg := Pl.tig_bounds HVh.out hf.1
          have hsx := HS.out
          have hbt := Pl.op1_bounds HVh.out htg.1
          have e1 : N - k = (N - (k + 1)) + 1 := by omega
          have ho := fun w' => ropened_b h HVh.out f hf _ rfl w'
          have HO := Lib.hid ho
          have ho2 := fun w' => ropened_b h HVh.out (Pl.tig h f) (by omega) _ rfl w'
          have HO2 := Lib.hid ho2
          have ht1 := HVh.out.t1
          have ht2 := HVh.out.t2
          have kk : IntKind.i64.wrap (f + h.tight) = f + h.tight := IntWalk.i64_in _ (by omega)
          clear ht1 ht2
          have hss : IntKind.i64.wrap (s + 1) = s + 1 := IntWalk.i64_in _ (by omega)
          by_cases hl : Pl.op1 h f < least
          · by_cases hl2 : Pl.op1 h (Pl.tig h f) < least
            · have HE : Hid (R = none) := Lib.hid (by rw [← HQ.out, e1, sv_down hl hl2])
              have HH := Lib.hid (And.intro hbd (And.intro htg (And.intro hbt e1)))
              clear hbd htg hbt e1 ho ho2
              by_cases hm : h.start < f + h.tight
              · have HO3 := Lib.hid (fun w' => ropened_b h HVh.out h.start (by have := HS.out; have := HVh.out.t1; omega) (Pl.op1 h (Pl.tig h f)) (by rw [show Pl.tig h f = h.start from by unfold Pl.tig; omega]) w')
                go_wp2_with (refine ldm_hg hr rfl _ rfl rfl ?_)
                refine (HO.out _).mono ?_
                rintro e w2 ⟨rfl, hb2⟩
                have hB5 := hB.trans (hb2.mono hB.size)
                have bT5 := bT.below hb2 bT.lt
                have hr5 := bT5.range
                have q1 := bT5.cell 1
                have q3 := bT5.cell 3
                clear hr hb2 hB bT
                go_wp2_with (refine ldm_hg hr5 rfl _ rfl rfl ?_)
                refine (HO3.out _).mono ?_
                rintro e w4 ⟨rfl, hb4⟩
                have hB4 := hB5.trans (hb4.mono hB5.size)
                have bT4 := bT5.below hb4 bT5.lt
                clear hr5 hb4 hB5 bT5 q1 q3
                go_wp2
                go_ret2
                exact ⟨by rw [HE.out]; rfl, hB4⟩
              · have HO3 := Lib.hid (fun w' => ropened_b h HVh.out (f + h.tight) (by have := HS.out; have := HVh.out.t1; omega) (Pl.op1 h (Pl.tig h f)) (by rw [show Pl.tig h f = f + h.tight from by unfold Pl.tig; omega]) w')
                go_wp2_with (refine ldm_hg hr rfl _ rfl rfl ?_)
                refine (HO.out _).mono ?_
                rintro e w2 ⟨rfl, hb2⟩
                have hB5 := hB.trans (hb2.mono hB.size)
                have bT5 := bT.below hb2 bT.lt
                have hr5 := bT5.range
                have q1 := bT5.cell 1
                have q3 := bT5.cell 3
                clear hr hb2 hB bT
                go_wp2_with (refine ldm_hg hr5 rfl _ rfl rfl ?_)
                refine (HO3.out _).mono ?_
                rintro e w4 ⟨rfl, hb4⟩
                have hB4 := hB5.trans (hb4.mono hB5.size)
                have bT4 := bT5.below hb4 bT5.lt
                clear hr5 hb4 hB5 bT5 q1 q3
                go_wp2
                go_ret2
                exact ⟨by rw [HE.out]; rfl, hB4⟩
            · have HE : Hid (Pl.sv h least (N - (k + 1)) (s + 1) (Pl.op1 h (Pl.tig h f)) = R) := Lib.hid (by rw [← HQ.out, e1, sv_tight hl hl2])
              have HH := Lib.hid (And.intro hbd (And.intro htg (And.intro hbt e1)))
              clear hbd htg hbt e1 ho ho2
              by_cases hm : h.start < f + h.tight
              · have HO3 := Lib.hid (fun w' => ropened_b h HVh.out h.start (by have := HS.out; have := HVh.out.t1; omega) (Pl.op1 h (Pl.tig h f)) (by rw [show Pl.tig h f = h.start from by unfold Pl.tig; omega]) w')
                go_wp2_with (refine ldm_hg hr rfl _ rfl rfl ?_)
                refine (HO.out _).mono ?_
                rintro e w2 ⟨rfl, hb2⟩
                have hB5 := hB.trans (hb2.mono hB.size)
                have bT5 := bT.below hb2 bT.lt
                have hr5 := bT5.range
                have q1 := bT5.cell 1
                have q3 := bT5.cell 3
                clear hr hb2 hB bT
                go_wp2_with (refine ldm_hg hr5 rfl _ rfl rfl ?_)
                refine (HO3.out _).mono ?_
                rintro e w4 ⟨rfl, hb4⟩
                have hB4 := hB5.trans (hb4.mono hB5.size)
                have bT4 := bT5.below hb4 bT5.lt
                clear hr5 hb4 hB5 bT5 q1 q3
                go_wp2
                go_roundw
                case rel => exact ⟨k + 1, s + 1, _, by go_num, rfl, rfl, hlt, by omega, by omega, by have := HH.out; have := HS.out; omega, HE.out, bT4, hB4⟩
                case measure => simp [intOf]; omega
              · have HO3 := Lib.hid (fun w' => ropened_b h HVh.out (f + h.tight) (by have := HS.out; have := HVh.out.t1; omega) (Pl.op1 h (Pl.tig h f)) (by rw [show Pl.tig h f = f + h.tight from by unfold Pl.tig; omega]) w')
                go_wp2_with (refine ldm_hg hr rfl _ rfl rfl ?_)
                refine (HO.out _).mono ?_
                rintro e w2 ⟨rfl, hb2⟩
                have hB5 := hB.trans (hb2.mono hB.size)
                have bT5 := bT.below hb2 bT.lt
                have hr5 := bT5.range
                have q1 := bT5.cell 1
                have q3 := bT5.cell 3
                clear hr hb2 hB bT
                go_wp2_with (refine ldm_hg hr5 rfl _ rfl rfl ?_)
                refine (HO3.out _).mono ?_
                rintro e w4 ⟨rfl, hb4⟩
                have hB4 := hB5.trans (hb4.mono hB5.size)
                have bT4 := bT5.below hb4 bT5.lt
                clear hr5 hb4 hB5 bT5 q1 q3
                go_wp2
                go_roundw
                case rel => exact ⟨k + 1, s + 1, _, by go_num, rfl, rfl, hlt, by omega, by omega, by have := HH.out; have := HS.out; omega, HE.out, bT4, hB4⟩
                case measure => simp [intOf]; omega
          · have HE : Hid (Pl.sv h least (N - (k + 1)) s (Pl.op1 h f) = R) := Lib.hid (by rw [← HQ.out, e1, sv_on hl])
            have HH := Lib.hid (And.intro hbd (And.intro htg (And.intro hbt e1)))
            clear hbd htg hbt e1 ho ho2 hss
            go_wp2_with (refine ldm_hg hr rfl _ rfl rfl ?_)
            refine (HO.out _).mono ?_
            rintro e w2 ⟨rfl, hb2⟩
            have hB3 := hB.trans (hb2.mono hB.size)
            have bT3 := bT.below hb2 bT.lt
            have hr3 := bT3.range
            clear hr hb2 hB bT
            go_wp2_with (refine ldm_hg hr3 rfl _ rfl rfl ?_)
            refine (HO.out _).mono ?_
            rintro e w4 ⟨rfl, hb4⟩
            have hB4 := hB3.trans (hb4.mono hB3.size)
            have bT4 := bT3.below hb4 bT3.lt
            clear hr3 hb4 hB3 bT3
            go_wp2
            go_roundw
            case rel => exact ⟨k + 1, s, _, by go_num, rfl, rfl, hlt, hs1, by omega, by have := HH.out; omega, HE.out, bT4, hB4⟩
            case measure => simp [intOf]; omega
        · obtain rfl : k = N := by omega
          have HE : Hid (R = some s) := Lib.hid (by rw [← HQ.out, Nat.sub_self]; rfl)
          go_wp2
          go_ret2
          exact ⟨by rw [HE.out]; rfl, hB⟩
end Go.Proofs.Ytdnfipeadoiepaa
