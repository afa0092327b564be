/- most, Most, of the document: as many as Match makes. -/
import Derived.Test.YtmjnlmmjfbpogaaM1
namespace Go.Proofs.Ytmjnlmmjfbpogaa
open Go.RowKit Go.Shelf

theorem info3' : (Try.prog.info? 3).map (fun i => (i.zero, i.size, i.bytes)) = some (some (.int .i64 0), 1, 8) := by kernel_rfl

set_option maxRecDepth 100000 in
set_option maxHeartbeats 16000000 in
theorem rmost_any (A : Option Addr) (l : List Pl.Tm) (c n : Nat) (hn : l.length = n) (ho : Pl.Ok l) (tol : Int) (ht : 0 ≤ tol ∧ tol ≤ 1000) (w : World) (hI : Tms w A l) :
    Calls Try.prog 60 #[.slice A n c, .int .i64 tol] w fun e w' => e = .returned (.int .i64 (Pl.mt l tol).length) ∧ Below w.heap.size w w' := by
  have HI := Lib.hid hI
  have HN := Lib.hid hn
  have HOK := Lib.hid ho
  have HT := Lib.hid ht
  have hl : n ≤ 60 := hn ▸ ho.len
  have HFIN : Hid (∀ c P, Pl.Mo l tol n c P → c = (Pl.mt l tol).length) := Lib.hid (fun c P h => by rw [← hn] at h; exact h.fin ho)
  generalize (Pl.mt l tol).length = V at *
  clear hI hn ho ht
  obtain ⟨i0, hi0, hz0, hn0, hy0⟩ := info_parts info3'
  have hmk := run_make w 41 3 i0 (.int .i64 0) Try.underlying41 hi0 hz0 .i64 .i64 n n (by omega) (by omega) (by rw [hy0]; omega) (by omega)
  rw [Int.toNat_natCast, hn0, Nat.mul_one] at hmk
  have hst := StI.new w n
  have hB0 := (Below.refl w.heap.size w).alloc (Nat.le_refl _) (.cells (madeCells #[.int .i64 0] n) 3)
  change Sem.run _ _ _ = Result.ok _ (w.alloc (.cells (madeCells #[.int .i64 0] n) 3)) at hmk
  generalize w.alloc (.cells (madeCells #[.int .i64 0] n) 3) = w1 at *
  clear hi0 hz0 hn0 hy0
  have HST := Lib.hid hst
  have HB0 := Lib.hid hB0
  clear hst hB0
  go_enter Try.func60, Try.ntmps60
  go_wp2
  clear hmk
  go_loopw [6] (fun i wr => ∃ k : Nat, k ≤ n ∧ i = .int .i64 k ∧ StI wr w.heap.size n (fun q => if q < k then -1 else 0) ∧ Below w.heap.size w wr) (fun i _ => n - (intOf i).toNat)
  case atStart => exact ⟨0, Nat.zero_le _, rfl, HST.out.congr (fun q _ => by simp), HB0.out⟩
  case round =>
    clear HST HB0
    obtain ⟨k, hk, rfl, hst, hB⟩ := hrel
    obtain ⟨wo, rfl⟩ : ∃ wo, wo = wr := ⟨_, rfl⟩
    by_cases hlt : k < n
    · have hc1 := hst.cell hlt
      have hf1 := hst.frozen k
      have hkI : (k : Int) < (n : Int) := by omega
      have hst2 := hst.set (f' := fun q => if q < k + 1 then -1 else 0) k (-1) (fun q _ => by
        by_cases e : q = k
        · subst e; simp
        · by_cases e2 : q < k
          · rw [if_pos (by omega), if_neg e, if_pos e2]
          · rw [if_neg (by omega), if_neg e, if_neg e2])
      have hB2 := hB.trans ((Only.setCell w.heap.size wo k (.int .i64 (-1))).below (Nat.le_refl _))
      clear hst hB
      go_wp2
      go_roundw
      case rel => exact ⟨k + 1, by omega, by go_num, hst2, hB2⟩
      case measure => simp [intOf]; omega
    · obtain rfl : k = n := by omega
      have hst2 : StI wo w.heap.size k (fun _ => -1) := hst.congr (fun q hq => by rw [if_pos hq])
      have HMo : Hid (Pl.Mo l tol 0 0 (fun _ => -1)) := Lib.hid (Pl.Mo.start l tol)
      clear hst hlt hk
      go_wp2
      go_loopw [7, 8] (fun vc i wr => ∃ j : Nat, ∃ c' : Nat, ∃ P, j ≤ k ∧ c' ≤ j ∧ i = .int .i64 j ∧ vc = .int .i64 c' ∧ StI wr w.heap.size k P ∧ Hid (Pl.Mo l tol j c' P) ∧ Below w.heap.size w wr) (fun _ i _ => k - (intOf i).toNat)
      case atStart => exact ⟨0, 0, _, Nat.zero_le _, Nat.le_refl _, rfl, rfl, hst2, HMo, hB⟩
      case round =>
        clear hst2 HMo hB
        obtain ⟨j, c', P, hj, hcj, rfl, rfl, hst, hmo, hB⟩ := hrel
        obtain ⟨wp, rfl⟩ : ∃ wp, wp = wr := ⟨_, rfl⟩
        by_cases hlt : j < k
        · have hjl : j < l.length := by rw [HN.out]; exact hlt
          have hjI : (j : Int) < (k : Int) := by omega
          obtain ⟨bz, oz, rfl, hbz, hcz⟩ := tms_open HI.out (by omega)
          have hq := (tms_cells hbz hcz hB hjl).2.1
          have hgp := hst.lt
          obtain ⟨x, hx⟩ : ∃ x, decide ((Pl.at' l j).side = 1) = x := ⟨_, rfl⟩
          have hxe : ((Pl.at' l j).side == 1) = x := eqB.trans hx
          cases x with
          | false =>
            have HNX := Lib.hid (hmo.out.skip (of_decide_eq_false hx))
            clear hx hmo hcz
            go_wp2
            go_roundw
            case rel => exact ⟨j + 1, c', P, by omega, by omega, by go_num, rfl, hst, HNX, hB⟩
            case measure => simp [intOf]; omega
          | true =>
            obtain ⟨i1, hi1, hz1, hn1, hy1⟩ := info_parts info4
            have hmk := run_make wp 76 4 i1 (.bool false) Try.underlying76 hi1 hz1 .i64 .i64 k k (by omega) (by omega) (by rw [hy1]; omega) (by omega)
            rw [Int.toNat_natCast, hn1, Nat.mul_one] at hmk
            have hsb := StB.new wp k
            have hst1 := hst.alloc (.cells (madeCells #[.bool false] k) 4)
            have hB1 := hB.alloc hB.size (.cells (madeCells #[.bool false] k) 4)
            change Sem.run _ _ _ = Result.ok _ (wp.alloc (.cells (madeCells #[.bool false] k) 4)) at hmk
            have hgs := hB.size
            have hw0 := hst.lt
            have hFst : Fst l k (wp.alloc (.cells (madeCells #[.bool false] k) 4)) bz oz w.heap.size wp.heap.size P Pl.noS :=
              ⟨Nat.lt_of_lt_of_le hbz hB1.size, fun q hq => rangeAt_below (hcz q hq) hbz hB1, by omega, by omega, by omega, hst1, hsb⟩
            have HCALL := Lib.hid (fun cp cs => found_any l k HN.out HOK.out tol HT.out bz oz w.heap.size wp.heap.size c cp cs (Pl.Un k Pl.noS) P Pl.noS j _ (Nat.le_refl _) hlt (of_decide_eq_true hx) hmo.out.pm hmo.out.fre hFst)
            have hBs := hB1.size
            clear hi1 hz1 hn1 hy1 hsb hst1 hFst hcz hst hx
            generalize wp.alloc (.cells (madeCells #[.bool false] k) 4) = w5 at *
            have HB1 := Lib.hid hB1
            clear hB hB1
            go_wp2_with fail
            refine (HCALL.out _ _).mono ?_
            rintro e w6 ⟨b, P1, S1, rfl, hF, hT, hs, hf⟩
            have hB6 := HB1.out.trans (hT.below (Nat.le_refl _) hgs hBs)
            have hst6 := hF.P
            clear HCALL hmk hq
            cases b with
            | true =>
              have HNX := Lib.hid (hmo.out.suc (hs rfl))
              clear hs hf hmo hF hT
              go_wp2
              go_roundw
              case rel => exact ⟨j + 1, c' + 1, P1, by omega, by omega, by go_num, by go_num, hst6, HNX, hB6⟩
              case measure => simp [intOf]; omega
            | false =>
              obtain ⟨rfl, hf2⟩ := hf rfl
              rw [← HN.out] at hf2
              have HNX := Lib.hid (hmo.out.fai hf2)
              clear hs hf hf2 hmo hF hT
              go_wp2
              go_roundw
              case rel => exact ⟨j + 1, c', P1, by omega, by omega, by go_num, rfl, hst6, HNX, hB6⟩
              case measure => simp [intOf]; omega
        · obtain rfl : j = k := by omega
          have HF : Hid (V = c') := Lib.hid (HFIN.out _ _ hmo.out).symm
          go_wp2
          go_ret
          exact ⟨by rw [HF.out]; rfl, hB⟩

set_option maxRecDepth 100000 in
set_option maxHeartbeats 1000000 in
theorem rMost_any (A : Option Addr) (l : List Pl.Tm) (c n : Nat) (hn : l.length = n) (tol : Int) (w : World) (hI : Tms w A l) :
    Calls Try.prog 27 #[.slice A n c, .int .i64 tol] w fun e w' => e = .returned (.tuple #[.int .i64 (Pl.Mt l tol).length, .int .i64 (Pl.ck l tol)]) ∧ Below w.heap.size w w' := by
  subst hn
  obtain ⟨v, hv⟩ : ∃ v, Pl.ck l tol = v := ⟨_, rfl⟩
  have HC := Lib.hid (asked_b A l c tol v hv w hI)
  have HI := Lib.hid hI
  by_cases h0 : v = 0
  · subst h0
    obtain ⟨h1, h2⟩ := Pl.ck_ok hv
    have HM := Lib.hid (fun (w' : World) hI => rmost_any A l c _ rfl (Pl.ok_of h1) tol h2 w' hI)
    rw [show Pl.Mt l tol = Pl.mt l tol from if_pos hv, hv]
    generalize (Pl.mt l tol).length = V at *
    clear hv h1 h2 hI
    go_enter Try.func27, Try.ntmps27
    go_wp2_with fail
    refine HC.out.mono ?_
    rintro e w1 ⟨rfl, hb1⟩
    have HI1 := Lib.hid (HI.out.below hb1)
    go_wp2_with fail
    refine (HM.out _ HI1.out).mono ?_
    rintro e w2 ⟨rfl, hb2⟩
    go_wp2
    go_ret2
    exact ⟨rfl, hb1.trans (hb2.mono hb1.size)⟩
  · have h1 : (v != 0) = true := by simp [h0]
    rw [show Pl.Mt l tol = [] from if_neg (by rw [hv]; exact h0), hv]
    clear h0 hv hI
    go_enter Try.func27, Try.ntmps27
    go_wp2_with fail
    refine HC.out.mono ?_
    rintro e w1 ⟨rfl, hb1⟩
    go_wp2
    go_ret2
    exact ⟨rfl, hb1⟩
end Go.Proofs.Ytmjnlmmjfbpogaa
