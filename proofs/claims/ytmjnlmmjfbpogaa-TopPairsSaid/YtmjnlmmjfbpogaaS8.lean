/- isGuard, IsGuard, of the program. -/
import Derived.Test.YtmjnlmmjfbpogaaS7
namespace Go.Proofs.Ytmjnlmmjfbpogaa
open Go.RowKit Go.Shelf

set_option maxRecDepth 100000 in
set_option maxHeartbeats 16000000 in
theorem isguard_b (A : Option Addr) (l : List Pl.Tm) (c n : Nat) (hn : l.length = n) (hok : Pl.Ok l) (hnc : n ≤ c) (hcm : c ≤ maxLen) (tol : Int) (ht : 0 ≤ tol ∧ tol ≤ 1000) (gb cg : Nat) (u : Nat → Bool) (w : World) (hI : Tms w A l) (hS : StB w gb n u) :
    Calls Try.prog 62 #[.slice A n c, .int .i64 tol, .slice (some ⟨gb, 0, none⟩) n cg] w fun e w' => e = .returned (.bool (Pl.gd l tol u)) ∧ Below w.heap.size w w' := by
  have HI := Lib.hid hI
  have HN := Lib.hid hn
  have HOK := Lib.hid hok
  have HS := Lib.hid hS
  have hl : n ≤ 60 := hn ▸ hok.len
  have HKT : Hid (IntKind.i64.wrap (-tol) = -tol) := Lib.hid (IntWalk.i64_in _ (by omega))
  have H0 : Hid (Pl.Gd l tol u 0 0) := Lib.hid Pl.Gd.start
  have HYES : Hid (Pl.Gd l tol u n 0 → Pl.gd l tol u = true) := Lib.hid (fun h => Pl.Gd.fin (by rw [hn]; exact h))
  have HNO : Hid (∀ a b, a < n → b < a → Pl.gdk l tol u a b = true → Pl.gd l tol u = false) := Lib.hid (fun a b h1 h2 h3 => Pl.gd_no (by rw [hn]; exact h1) h2 h3)
  have hcI : (c : Int) ≤ 9223372036854775807 := by unfold maxLen at hcm; omega
  generalize Pl.gd l tol u = V at *
  clear hI hn hok hS ht hcm
  go_enter Try.func62, Try.ntmps62
  go_wp2
  go_loopw [13] (fun i wr => ∃ a : Nat, a ≤ n ∧ i = .int .i64 a ∧ Hid (Pl.Gd l tol u a 0) ∧ Below w.heap.size w wr) (fun i _ => n - (intOf i).toNat)
  case atStart => exact ⟨0, Nat.zero_le _, rfl, H0, Below.refl _ _⟩
  case round =>
    clear H0
    obtain ⟨a, ha, rfl, hgd, hB⟩ := hrel
    obtain ⟨wo, rfl⟩ : ∃ wo, wo = wr := ⟨_, rfl⟩
    by_cases hlt : a < n
    · have haI : (a : Int) < (n : Int) := by omega
      have haN : (a : Int) ≤ (c : Int) := by omega
      have hal : a < l.length := by rw [HN.out]; exact hlt
      obtain ⟨bz, oz, rfl, hbz, hcz⟩ := tms_open HI.out (by omega)
      have hck := rangeAt_below (hcz a hal) hbz hB
      rw [Pl.at_getD hal] at hck
      have HCZ := Lib.hid hcz
      have va := HOK.out.vt a hal
      have HVA := Lib.hid va
      have bA := Blk.new wo 24 (tmA (Pl.at' l a))
      have hB1 := hB.alloc hB.size (.cells (tmA (Pl.at' l a)) 24)
      obtain ⟨T, hT⟩ : ∃ T, T = wo.heap.size := ⟨_, rfl⟩
      clear hcz va hal
      go_wp2_with (refine ldm_tm hck rfl _ rfl rfl ?_)
      clear hck
      rw [← hT] at bA ⊢
      obtain ⟨wq, hwq⟩ : ∃ wq, wq = wo.alloc (.cells (tmA (Pl.at' l a)) 24) := ⟨_, rfl⟩
      rw [← hwq] at bA hB1 ⊢
      clear hwq hT hB
      go_loopw [22] (fun j wr => ∃ b : Nat, b ≤ a ∧ j = .int .i64 b ∧ Hid (Pl.Gd l tol u a b) ∧ Below wq.heap.size wq wr) (fun j _ => a - (intOf j).toNat)
      case atStart => exact ⟨0, Nat.zero_le _, rfl, hgd, Below.refl _ _⟩
      case round =>
        clear hgd
        obtain ⟨b, hb, rfl, hgd, hBb⟩ := hrel
        obtain ⟨wp, rfl⟩ : ∃ wp, wp = wr := ⟨_, rfl⟩
        by_cases hba : b < a
        · have hbA : (b : Int) < (a : Int) := by omega
          have hbn : b < n := by omega
          have hbl : b < l.length := by rw [HN.out]; exact hbn
          have hBw := hB1.trans (hBb.mono hB1.size)
          have hck := rangeAt_below (HCZ.out b hbl) hbz hBw
          rw [Pl.at_getD hbl] at hck
          have vb := HOK.out.vt b hbl
          have hB2 := hBw.alloc hBw.size (.cells (tmA (Pl.at' l b)) 24)
          have bA2 := (bA.below hBb bA.lt).alloc (.cells (tmA (Pl.at' l b)) 24)
          have bB2 := Blk.new wp 24 (tmA (Pl.at' l b))
          have rA := bA2.range
          have rB := bB2.range
          have hd := canpair_b (Pl.at' l a) (Pl.at' l b) tol _ rfl (vt_wrap HVA.out vb) HKT.out
          obtain ⟨x, hx⟩ : ∃ x, Pl.can (Pl.at' l a) (Pl.at' l b) tol = x := ⟨_, rfl⟩
          rw [hx] at hd
          have HD := Lib.hid hd
          have hsp := (HS.out.below hBw HS.out.lt).alloc (.cells (tmA (Pl.at' l b)) 24)
          obtain ⟨z1, hz1⟩ : ∃ z, u a = z := ⟨_, rfl⟩
          obtain ⟨z2, hz2⟩ : ∃ z, u b = z := ⟨_, rfl⟩
          have HGK : Hid (Pl.gdk l tol u a b = (x && (!z1 && !z2))) := Lib.hid (by unfold Pl.gdk; rw [hx, hz1, hz2])
          have HZ1 := Lib.hid hz1
          have HZ2 := Lib.hid hz2
          have hb2s := (Below.refl wp.heap.size wp).alloc (Nat.le_refl _) (.cells (tmA (Pl.at' l b)) 24)
          have hBb2 := hBb.trans (hb2s.mono hBb.size)
          clear hd hx vb hz1 hz2 hbl bA2 bB2 hb2s
          go_wp2_with (first | refine ldm_tm hck rfl _ rfl rfl ?_ | refine ldm_tm rA rfl _ rfl rfl ?_ | refine ldm_tm rB rfl _ rfl rfl ?_)
          refine (HD.out _).mono ?_
          rintro e w5 ⟨rfl, hb5⟩
          have hB5 := hB2.trans (hb5.mono hB2.size)
          have hsp5 := hsp.below hb5 hsp.lt
          have hBb5 := hBb2.trans (hb5.mono hBb2.size)
          have ua := hsp5.cell hlt
          have ub := hsp5.cell hbn
          rw [HZ1.out] at ua
          rw [HZ2.out] at ub
          clear hsp hsp5 rA rB hck hB2 hb5 hBb2
          have hc : (x = true ∧ z1 = false ∧ z2 = false) ∨ x = false ∨ (x = true ∧ z1 = true) ∨ (x = true ∧ z1 = false ∧ z2 = true) := by cases x <;> cases z1 <;> cases z2 <;> simp
          rcases hc with ⟨rfl, rfl, rfl⟩ | rfl | ⟨rfl, rfl⟩ | ⟨rfl, rfl, rfl⟩
          · have HF := Lib.hid (HNO.out a b hlt hba HGK.out)
            go_wp2
            go_ret
            exact ⟨by rw [HF.out]; rfl, hB5⟩
          all_goals
            have HNX : Hid (Pl.Gd l tol u a (b + 1)) := Lib.hid (hgd.out.next (HGK.out.trans (by simp)))
            go_wp2
            go_roundw
            case rel => exact ⟨b + 1, by omega, by go_num, HNX, hBb5⟩
            case measure => simp [intOf]; omega
        · obtain rfl : b = a := by omega
          have HNX : Hid (Pl.Gd l tol u (b + 1) 0) := Lib.hid hgd.out.row
          have hBw := hB1.trans (hBb.mono hB1.size)
          go_wp2
          go_roundw
          case rel => exact ⟨b + 1, by omega, by go_num, HNX, hBw⟩
          case measure => simp [intOf]; omega
    · obtain rfl : a = n := by omega
      have HF := Lib.hid (HYES.out hgd.out)
      go_wp2
      go_ret
      exact ⟨by rw [HF.out]; rfl, hB⟩
end Go.Proofs.Ytmjnlmmjfbpogaa
