/- The walk of reachable: its contract. -/
import Derived.Test.YtmjnlmmjfbpogaaS10
namespace Go.Proofs.Ytmjnlmmjfbpogaa
open Go.RowKit Go.Shelf Go.Sort Go.Lib

theorem drew_two {rb : Nat} {w w' : World} (h : Below w.heap.size w w') : Two rb rb w w' := Two.of h

set_option maxRecDepth 100000 in
set_option maxHeartbeats 16000000 in
theorem walk_any (l : List Pl.Tm) (n c : Nat) (hn : l.length = n) (ho : Pl.Ok l) (tol : Int) (ht : 0 ≤ tol ∧ tol ≤ 1000) (bz oz rb mb nm b1 b2 b3 b4 b5 : Nat) (f : Int → Int) (hf : ∀ b k, (b, k) ∈ Pl.mt l tol → f (k : Int) = b) : ∀ (m : Nat) (S : Nat → Bool) (a : Nat) (w : World), Pl.Un n S ≤ m → a < n → (Pl.at' l a).side = 1 → Pl.Fp l tol S a → StB w rb n S → Wenv l n c tol w bz oz rb mb nm b1 b2 b3 b4 b5 f →
    Calls Try.prog 83 (#[.int .i64 a] ++ wcb b1 b2 b3 b4 b5) w fun e w' => WalkPost l n tol rb S a w e w' := by
  intro m
  induction m using Nat.strongRecOn with
  | ind m ih =>
  intro S a w hU ha hside hFp hst hEnv
  have IH := Lib.hid ih
  have HOK := Lib.hid ho
  have HN := Lib.hid hn
  have HF := Lib.hid hf
  have hl : n ≤ 60 := hn ▸ ho.len
  have HS1 := Lib.hid hside
  have HU := Lib.hid hU
  have HKT : Hid (IntKind.i64.wrap (-tol) = -tol) := Lib.hid (IntWalk.i64_in _ (by omega))
  have HFp := Lib.hid hFp
  have H0 : Hid (Pl.Wl l tol S a 0 (Pl.see S a)) := Lib.hid Pl.Wl.start
  have haI : (a : Int) < (n : Int) := by omega
  have hal : a < l.length := by omega
  have HAL := Lib.hid hal
  have q1 := hEnv.k1.cell 0
  have q2 := hEnv.k2.cell 0
  have ca := hst.cell ha
  have fa := hst.frozen a
  have hst1 := hst.set (f' := Pl.see S a) a true (fun q _ => by unfold Pl.see; by_cases e : q = a <;> simp [e])
  have hT1 : Two rb rb w (w.setCell ⟨rb, a, none⟩ (.bool true)) := Two.one (Only.setCell rb w a _)
  have hEnv1 := hEnv.two hT1
  have q2' := hEnv1.k2.cell 0
  clear ih ho hn hf hside hU hFp hst hal ht
  change Calls _ _ #[.int .i64 a, .pointer (some ⟨b1, 0, none⟩), .pointer (some ⟨b2, 0, none⟩), .pointer (some ⟨b3, 0, none⟩), .pointer (some ⟨b4, 0, none⟩), .pointer (some ⟨b5, 0, none⟩)] _ _
  go_enter Try.func83, Try.ntmps83
  go_wp2
  clear q1 q2 q2' ca fa hEnv
  go_loopw [14] (fun i wr => ∃ k : Nat, ∃ Sc, k ≤ n ∧ i = .int .i64 k ∧ StB wr rb n Sc ∧ Wenv l n c tol wr bz oz rb mb nm b1 b2 b3 b4 b5 f ∧ Two rb rb w wr ∧ Hid (Pl.Wl l tol S a k Sc)) (fun i _ => n - (intOf i).toNat)
  case atStart => exact ⟨0, _, Nat.zero_le _, rfl, hst1, hEnv1, hT1, H0⟩
  case round =>
    clear hst1 hEnv1 hT1 H0
    obtain ⟨k, Sc, hk, rfl, hst, hE, hT, hw⟩ := hrel
    obtain ⟨wo, rfl⟩ : ∃ wo, wo = wr := ⟨_, rfl⟩
    by_cases hlt : k < n
    · have hkI : (k : Int) < (n : Int) := by omega
      have hkl : k < l.length := by rw [HN.out]; exact hlt
      have hck := hE.tm k hkl
      rw [Pl.at_getD hkl] at hck
      have bT := Blk.new wo 24 (tmA (Pl.at' l k))
      have hst2 := hst.alloc (.cells (tmA (Pl.at' l k)) 24)
      have hT2 : Two rb rb wo (wo.alloc (.cells (tmA (Pl.at' l k)) 24)) := Two.of ((Below.refl wo.heap.size wo).alloc (Nat.le_refl _) _)
      have hE2 := hE.two hT2
      have hT3 := hT.trans hT2
      have hneT : wo.heap.size ≠ rb := by have := hst.lt; omega
      clear hst hE hT hT2
      go_wp2_with (refine ldm_tm hck rfl _ rfl rfl ?_)
      obtain ⟨T, hTT⟩ : ∃ T, T = wo.heap.size := ⟨_, rfl⟩
      rw [← hTT] at bT hneT ⊢
      clear hck hTT
      obtain ⟨wa, hwa⟩ : ∃ wa, wa = wo.alloc (.cells (tmA (Pl.at' l k)) 24) := ⟨_, rfl⟩
      rw [← hwa] at bT hst2 hE2 hT3 ⊢
      clear hwa
      obtain ⟨x, hx⟩ : ∃ x, Sc k = x := ⟨_, rfl⟩
      have HX := Lib.hid hx
      have z1 := fun e : Ext wa => e.cell ((hE2.k1.cell 0).trans rfl)
      have z2 := fun e : Ext wa => e.cell ((hE2.k2.cell 0).trans rfl)
      have z3 := fun e : Ext wa => e.cell ((hE2.k3.cell 0).trans rfl)
      have zk := fun e : Ext wa => e.cell (hst2.cell hlt)
      rw [hx] at zk
      have ya0 := fun e : Ext wa => e.cell (hE2.cells HAL.out).1
      have ya1 := fun e : Ext wa => e.cell (hE2.cells HAL.out).2.1
      have ya2 := fun e : Ext wa => e.cell (hE2.cells HAL.out).2.2.1
      have ya3 := fun e : Ext wa => e.cell (hE2.cells HAL.out).2.2.2
      have yt0 := fun e : Ext wa => e.cell ((bT.cell 0).trans rfl)
      have yt1 := fun e : Ext wa => e.cell ((bT.cell 1).trans rfl)
      have yt2 := fun e : Ext wa => e.cell ((bT.cell 2).trans rfl)
      have yt3 := fun e : Ext wa => e.cell ((bT.cell 3).trans rfl)
      have hgl := hst2.lt
      cases x with
      | true =>
        have HNX : Hid (Pl.Wl l tol S a (k + 1) Sc) := Lib.hid (hw.out.skip (fun _ => HX.out))
        refine wp_region_ext (by kernel_rfl) (by kernel_rfl) ?_
        repeat (go_big_quiet_step (fail))
        refine wpQuiet_nil ?_
        rintro _ ⟨s, rfl⟩
        have hst3 := hst2.below s.h hgl
        have hE3 := hE2.two (Two.of s.h)
        have hT4 := hT3.trans (Two.of s.h)
        clear z1 z2 z3 zk ya0 ya1 ya2 ya3 yt0 yt1 yt2 yt3 hst2 hE2 hT3
        go_wp2
        go_roundw
        case rel => exact ⟨k + 1, Sc, by omega, by go_num, hst3, hE3, hT4, HNX⟩
        case measure => simp [intOf]; omega
      | false =>
        have va := HOK.out.vt a HAL.out
        have vk := HOK.out.vt k hkl
        have hd := canpair_b (Pl.at' l a) (Pl.at' l k) tol _ rfl (vt_wrap va vk) HKT.out
        obtain ⟨y, hy⟩ : ∃ y, Pl.can (Pl.at' l a) (Pl.at' l k) tol = y := ⟨_, rfl⟩
        rw [hy] at hd
        have HD := Lib.hid hd
        have HY := Lib.hid hy
        have HKL := Lib.hid hkl
        clear hd hy va vk hkl hx
        cases y with
        | false =>
          have HNX : Hid (Pl.Wl l tol S a (k + 1) Sc) := Lib.hid (hw.out.skip (fun he => by have := he.can; rw [HY.out] at this; cases this))
          refine wp_region_ext (by kernel_rfl) (by kernel_rfl) ?_
          repeat (go_big_quiet_step ((go_at_call 49; refine calls_ext (HD.out _))))
          refine wpQuiet_nil ?_
          rintro _ ⟨s, rfl⟩
          have hst3 := hst2.below s.h hgl
          have hE3 := hE2.two (Two.of s.h)
          have hT4 := hT3.trans (Two.of s.h)
          clear z1 z2 z3 zk ya0 ya1 ya2 ya3 yt0 yt1 yt2 yt3 hst2 hE2 hT3
          go_wp2
          go_roundw
          case rel => exact ⟨k + 1, Sc, by omega, by go_num, hst3, hE3, hT4, HNX⟩
          case measure => simp [intOf]; omega
        | true =>
          refine wp_region_ext (by kernel_rfl) (by kernel_rfl) ?_
          repeat (go_big_quiet_step ((go_at_call 49; refine calls_ext (HD.out _))))
          refine wpQuiet_nil ?_
          rintro _ ⟨s, rfl⟩
          have hst3 := hst2.below s.h hgl
          have hE3 := hE2.two (Two.of s.h)
          have hT4 := hT3.trans (Two.of s.h)
          clear z1 z2 z3 zk ya0 ya1 ya2 ya3 yt0 yt1 yt2 yt3 hst2 hE2 hT3 hgl
          generalize s.w = w4 at *
          clear s
          have hEd : Pl.Ed l tol a k := ed_mk HOK.out HAL.out HKL.out HS1.out HY.out
          have hFc : Pl.Fp l tol Sc a := HFp.out.mono hw.out.mono
          obtain ⟨b, hb⟩ := hFc.hit HOK.out hEd HX.out
          have hFb := hFc.step hEd HX.out hb
          have hbE := (Pl.mt_mch l tol).rel (b, k) hb
          have hfk : f (k : Int) = (b : Int) := HF.out b k hb
          have hlm : Pl.Un n (Pl.see Sc k) < m := by
            have h1 := Pl.un_lt hlt HX.out
            have h2 : Pl.Un n Sc ≤ Pl.Un n S := Pl.un_mono (fun q _ e => hw.out.mono q e)
            have := HU.out
            omega
          have hs2 := hEd.s2
          have HSTEP := Lib.hid (fun S2 (hk2 : Pl.Wk l tol (Pl.see Sc k) b S2) => hw.out.deep hb hs2 hk2)
          have q1 := hE3.k1.cell 0
          have ck := hst3.cell hlt
          have fk := hst3.frozen k
          have hst5 := hst3.set (f' := Pl.see Sc k) k true (fun q _ => by unfold Pl.see; by_cases e : q = k <;> simp [e])
          have hT5 : Two rb rb w4 (w4.setCell ⟨rb, k, none⟩ (.bool true)) := Two.one (Only.setCell rb w4 k _)
          have hE5 := hE3.two hT5
          have hT6 := hT4.trans hT5
          have q4 := hE5.k4.cell 0
          have q5 := hE5.k5.cell 0
          have hlk := hE5.map.look (WalkArith.wf_i64 (n := (k : Int)) (by omega))
          rw [hfk] at hlk
          have HCALL := Lib.hid (IH.out _ hlm (Pl.see Sc k) b _ (Nat.le_refl _) (by have := hbE.a; rw [HN.out] at this; exact this) hbE.s1 hFb hst5 hE5)
          have eg := eg_walk
          clear hEd hFc hb hFb hbE hfk hlm hs2 hw hst3 hE3 hT4
          go_wp2_with (go_at_fn 83; refine HCALL.out.mono ?_; rintro e w6 ⟨S2, rfl, hst6, hT7, hk2⟩)
          have hE6 := hE5.two hT7
          have hT8 := hT6.trans hT7
          have HNX := Lib.hid (HSTEP.out S2 hk2)
          clear hk2 hst5 hE5 hT5 hT6 hT7 q1 q4 q5 ck fk
          go_roundw
          case rel => exact ⟨k + 1, S2, by omega, by go_num, hst6, hE6, hT8, HNX⟩
          case measure => simp [intOf]; omega
    · obtain rfl : k = n := by omega
      have HFIN := Lib.hid (Pl.Wl.fin (by rw [HN.out]; exact hw.out) HS1.out)
      go_wp2
      go_end0
      exact ⟨Sc, rfl, hst, hT, HFIN.out⟩
end Go.Proofs.Ytmjnlmmjfbpogaa
