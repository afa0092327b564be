/- SlabOvens. -/
import Derived.Test.YticjhkfidgkecaaGreatDoorO7
import Derived.Test.YticjhkfidgkecaaGreatDoorO8
namespace Go.Proofs.YticjhkfidgkecaaGreatDoor
open Go.RowKit Go.Shelf Pl

set_option maxRecDepth 100000 in
set_option maxHeartbeats 8000000 in
theorem law_ovens (n : Int) (A : Option Addr) (t : List Int) (len c : Nat) (d l : Int) (w : World) (hlen : t.length = len) (hc : len ≤ c) (hm : c ≤ maxLen) (hI : Tb w A t) (hE : Env w) (h8 : 8 ≤ w.heap.size) :
    Calls Tryz.prog 14 #[.int .i64 n, .slice A len c, .agg #[.int .i64 d, .int .i64 l]] w fun e w' => e = .returned (.bool true) ∧ Below w.heap.size w w' := by
  have hml : len ≤ maxLen := Nat.le_trans hc hm
  have hm63 : len ≤ 9223372036854775807 := by unfold maxLen at hml; omega
  have HSA := Lib.hid (fun w hE h8 => sane_any w hE h8)
  have HB := Lib.hid ((Below.refl w.heap.size w).alloc (Nat.le_refl _) (.cells #[.int .i64 d, .int .i64 l] 68))
  have B := Blk.new w 68 #[.int .i64 d, .int .i64 l]
  have HI := Lib.hid (hI.below HB.out)
  have HE := Lib.hid (hE.below HB.out)
  have H8 := Lib.hid (Nat.le_trans h8 HB.out.size)
  have HC := Lib.hid hc
  have HLEN := Lib.hid hlen
  have HML := Lib.hid hml
  clear hI hE h8 hc hlen hm hml
  go_enter Tryz.func14, Tryz.ntmps14
  go_wp2_with fail
  generalize w.alloc (.cells #[.int .i64 d, .int .i64 l] 68) = W at *
  have f0 := fun s : Ext W => s.cell (show W.cell? ⟨w.heap.size, 0, none⟩ = some (.int .i64 d) from (B.cell 0).trans rfl)
  have f1 := fun s : Ext W => s.cell (show W.cell? ⟨w.heap.size, 1, none⟩ = some (.int .i64 l) from (B.cell 1).trans rfl)
  refine wp_region_ext (by kernel_rfl) (by kernel_rfl) ?_
  repeat (go_big_quiet_step (fail))
  refine wpQuiet_nil ?_
  rintro _ ⟨s, rfl⟩
  have HB2 := Lib.hid (HB.out.trans (s.h.mono HB.out.size))
  have HI2 := Lib.hid (HI.out.below s.h)
  have HE2 := Lib.hid (HE.out.below s.h)
  have H82 := Lib.hid (Nat.le_trans H8.out s.h.size)
  generalize s.w = w2 at *
  clear s f0 f1 B HB HI HE H8
  by_cases h60 : 60 < len
  · have g0 : (60 : Int) < (len : Int) := by omega
    go_wp2_with fail
    refine (HSA.out _ HE2.out H82.out).mono ?_
    rintro e w3 ⟨rfl, hb3⟩
    have HB3 := Lib.hid (below_trans0 HB2.out hb3)
    clear hb3
    go_wp2_with fail
    go_ret
    exact ⟨rfl, HB3.out⟩
  have g60 : decide ((60 : Int) < (len : Int)) = false := by simp; omega
  have H60 := Lib.hid (show len ≤ 60 by omega)
  by_cases hn1 : n < 1
  · have g0 := hn1
    go_wp2_with fail
    refine (HSA.out _ HE2.out H82.out).mono ?_
    rintro e w3 ⟨rfl, hb3⟩
    have HB3 := Lib.hid (below_trans0 HB2.out hb3)
    clear hb3
    go_wp2_with fail
    go_ret
    exact ⟨rfl, HB3.out⟩
  have gn1 : decide (n < 1) = false := by simpa using hn1
  by_cases hn2 : 2000 < n
  · have g0 := hn2
    go_wp2_with fail
    refine (HSA.out _ HE2.out H82.out).mono ?_
    rintro e w3 ⟨rfl, hb3⟩
    have HB3 := Lib.hid (below_trans0 HB2.out hb3)
    clear hb3
    go_wp2_with fail
    go_ret
    exact ⟨rfl, HB3.out⟩
  have gn2 : decide (2000 < n) = false := by simpa using hn2
  have HN := Lib.hid (show 1 ≤ n ∧ n ≤ 2000 by omega)
  have H1 := Lib.hid (fun w hI => season_any n A t len c HLEN.out HC.out HML.out d w hI)
  by_cases hE0 : seE n t d = 0
  · obtain ⟨hok, hnn, hd, _⟩ := seE_zero hE0
    obtain ⟨D, rfl⟩ : ∃ D : Nat, d = D := ⟨d.toNat, by omega⟩
    have HD : Hid (D ≤ 1000) := Lib.hid (by omega)
    have e1 : seV n t D = sea n t D := by unfold seV; rw [if_pos hE0]; simp
    rw [hE0, e1] at H1
    have HSO := Lib.hid (fun (m : Int) (hmm : 1 ≤ m ∧ m ≤ 100000) (k : Nat) (hk : k ≤ 1000) w hI => season_ok m A t len c HLEN.out HC.out HML.out H60.out hok hmm k hk w hI)
    have HNO := Lib.hid (fun (h : alw n t D = none) => al_none hE0 (by simpa using h))
    have HYES := Lib.hid (fun (r : Nat) (h : alw n t D = some r) => al_some hE0 (by simpa using h))
    have HSP := Lib.hid (fun (r : Nat) (h : alw n t D = some r) => (show 1 ≤ r ∧ r ≤ 100000 ∧ n ≤ sea (r : Int) t D ∧ ∀ j : Nat, 1 ≤ j → j < r → sea (j : Int) t D < n from by
      obtain ⟨a, b, c, d⟩ := frm_some _ _ _ h
      exact ⟨a, by omega, c, d⟩))
    have HBIG := Lib.hid (fun (h : alw n t D = none) => (show sea 100000 t D < n from frm_none _ _ h 100000 (by omega) (by omega)))
    have HBD := Lib.hid (fun (r : Nat) => sea_bd (s := (r : Int)) D hok (by omega))
    have HRD := Lib.hid (fun w hI => rdy_any n A t len c HLEN.out HC.out HML.out H60.out hok HN.out l w hI)
    have HAL := Lib.hid (fun w hI => allow_any n A t len c HLEN.out HC.out HML.out D w hI)
    have bx := sea_bd (s := n) D hok (by omega)
    have by' := sea_mono (s := n) (s' := n + 1) D hok (by omega)
    have bz := sea_next (s := n) D hok (by omega)
    have HY := Lib.hid (HSO.out (n + 1) (by omega) D HD.out)
    have gy : decide (sea (n + 1) t D < sea n t D) = false := by simpa using by'
    have gx : decide (n < sea n t D) = false := by simpa using bx.2
    have g0 : decide (sea n t D < 0) = false := by simpa using bx.1
    have kn : IntKind.i64.wrap (n + 1) = n + 1 := IntWalk.i64_in _ (by omega)
    have gz : decide (sea n t D < sea n t (D + 1)) = false := by simpa using bz
    have HZ := Lib.hid (fun (h : D + 1 ≤ 1000) => HSO.out n (by omega) (D + 1) h)
    rw [show ((D + 1 : Nat) : Int) = (D : Int) + 1 by omega] at HZ
    generalize sea n t (D + 1) = z at *
    generalize sea (n + 1) t D = y at *
    generalize sea n t D = x at *
    clear bx by' bz hok hnn hd hE0 e1 HML HC HLEN H60 h60 hn1 hn2 HN
    go_wp2_with fail
    refine (H1.out _ HI2.out).mono ?_
    rintro e w4 ⟨rfl, rfl⟩
    go_wp2_with fail
    refine (HY.out _ HI2.out).mono ?_
    rintro e w5 ⟨rfl, rfl⟩
    by_cases hd1 : D < 1000
    · have gd : (D : Int) < 1000 := by omega
      have HZ1 := Lib.hid (HZ.out (by omega))
      clear HZ
      go_wp2_with fail
      refine (HZ1.out _ HI2.out).mono ?_
      rintro e w6 ⟨rfl, rfl⟩
      go_wp2_with fail
      cases hal : alw n t D with
      | none =>
        obtain ⟨e5, e6⟩ := HNO.out hal
        rw [e5, e6] at HAL
        have hbig := HBIG.out hal
        have gb : decide (n ≤ sea 100000 t D) = false := by simpa using hbig
        have HS1 := Lib.hid (HSO.out 100000 (by omega) D HD.out)
        generalize sea 100000 t D = u at *
        clear hbig hal e5 e6 HNO HYES HBIG
        refine (HAL.out _ HI2.out).mono ?_
        rintro e w3 ⟨rfl, hb3⟩
        have HB3 := Lib.hid (below_trans0 HB2.out hb3)
        have HI3 := Lib.hid (HI2.out.below hb3)
        have HE3 := Lib.hid (HE2.out.below hb3)
        have H83 := Lib.hid (Nat.le_trans H82.out hb3.size)
        clear hb3 HI2 HE2 H82 HB2
        go_wp2_with fail
        refine (HS1.out _ HI3.out).mono ?_
        rintro e w7 ⟨rfl, rfl⟩
        go_wp2_with fail
        refine (HRD.out _ HI3.out).mono ?_
        rintro e w8 ⟨rfl, rfl⟩
        go_wp2_with fail
        refine (HSA.out _ HE3.out H83.out).mono ?_
        rintro e w9 ⟨rfl, hb9⟩
        have HB9 := Lib.hid (below_trans0 HB3.out hb9)
        clear hb9
        go_wp2_with fail
        go_ret
        exact ⟨rfl, HB9.out⟩
      | some r =>
        obtain ⟨e5, e6⟩ := HYES.out r hal
        rw [e5, e6] at HAL
        obtain ⟨r1, r2, r3, r4⟩ := HSP.out r hal
        have gs : decide (sea (r : Int) t D < n) = false := by simpa using r3
        have gr : decide ((r : Int) < n) = false := by
          have := (HBD.out r).2; simp; omega
        have HS1 := Lib.hid (HSO.out r (by omega) D HD.out)
        rcases Nat.lt_or_ge 1 r with hr1 | hr1
        · obtain ⟨p, rfl⟩ : ∃ p, r = p + 1 := ⟨r - 1, by omega⟩
          have h4 := r4 p (by omega) (by omega)
          have gt : decide (n ≤ sea (p : Int) t D) = false := by simpa using h4
          have HS2 := Lib.hid (HSO.out p (by omega) D HD.out)
          have KW4 : Hid (wrap64 (p : Int) = p) := Lib.hid (by unfold wrap64; omega)
          have gq : decide ((1 : Int) < (p : Int) + 1) = true := by simp; omega
          rw [show ((p + 1 : Nat) : Int) = (p : Int) + 1 by omega] at HAL HS1 gs gr
          generalize sea ((p : Int) + 1) t D = s1 at *
          generalize sea (p : Int) t D = s2 at *
          clear hal e5 e6 HNO HYES HBIG HSP HBD r1 r2 r3 r4 h4 hr1
          refine (HAL.out _ HI2.out).mono ?_
          rintro e w3 ⟨rfl, hb3⟩
          have HB3 := Lib.hid (below_trans0 HB2.out hb3)
          have HI3 := Lib.hid (HI2.out.below hb3)
          have HE3 := Lib.hid (HE2.out.below hb3)
          have H83 := Lib.hid (Nat.le_trans H82.out hb3.size)
          clear hb3 HI2 HE2 H82 HB2
          go_wp2_with fail
          refine (HS1.out _ HI3.out).mono ?_
          rintro e w6 ⟨rfl, rfl⟩
          go_wp2_with fail
          rw [KW4.out]
          refine (HS2.out _ HI3.out).mono ?_
          rintro e w7 ⟨rfl, rfl⟩
          go_wp2_with fail
          refine (HRD.out _ HI3.out).mono ?_
          rintro e w8 ⟨rfl, rfl⟩
          go_wp2_with fail
          refine (HSA.out _ HE3.out H83.out).mono ?_
          rintro e w9 ⟨rfl, hb9⟩
          have HB9 := Lib.hid (below_trans0 HB3.out hb9)
          clear hb9
          go_wp2_with fail
          go_ret
          exact ⟨rfl, HB9.out⟩
        · obtain rfl : r = 1 := by omega
          rw [show ((1 : Nat) : Int) = 1 from rfl] at HAL HS1 gs gr
          generalize sea 1 t D = s1 at *
          clear hal e5 e6 HNO HYES HBIG HSP HBD r1 r2 r3 r4 hr1
          refine (HAL.out _ HI2.out).mono ?_
          rintro e w3 ⟨rfl, hb3⟩
          have HB3 := Lib.hid (below_trans0 HB2.out hb3)
          have HI3 := Lib.hid (HI2.out.below hb3)
          have HE3 := Lib.hid (HE2.out.below hb3)
          have H83 := Lib.hid (Nat.le_trans H82.out hb3.size)
          clear hb3 HI2 HE2 H82 HB2
          go_wp2_with fail
          refine (HS1.out _ HI3.out).mono ?_
          rintro e w6 ⟨rfl, rfl⟩
          go_wp2_with fail
          refine (HRD.out _ HI3.out).mono ?_
          rintro e w8 ⟨rfl, rfl⟩
          go_wp2_with fail
          refine (HSA.out _ HE3.out H83.out).mono ?_
          rintro e w9 ⟨rfl, hb9⟩
          have HB9 := Lib.hid (below_trans0 HB3.out hb9)
          clear hb9
          go_wp2_with fail
          go_ret
          exact ⟨rfl, HB9.out⟩
    · have gd : decide ((D : Int) < 1000) = false := by simp; omega
      clear HZ gz
      go_wp2_with fail
      cases hal : alw n t D with
      | none =>
        obtain ⟨e5, e6⟩ := HNO.out hal
        rw [e5, e6] at HAL
        have hbig := HBIG.out hal
        have gb : decide (n ≤ sea 100000 t D) = false := by simpa using hbig
        have HS1 := Lib.hid (HSO.out 100000 (by omega) D HD.out)
        generalize sea 100000 t D = u at *
        clear hbig hal e5 e6 HNO HYES HBIG
        refine (HAL.out _ HI2.out).mono ?_
        rintro e w3 ⟨rfl, hb3⟩
        have HB3 := Lib.hid (below_trans0 HB2.out hb3)
        have HI3 := Lib.hid (HI2.out.below hb3)
        have HE3 := Lib.hid (HE2.out.below hb3)
        have H83 := Lib.hid (Nat.le_trans H82.out hb3.size)
        clear hb3 HI2 HE2 H82 HB2
        go_wp2_with fail
        refine (HS1.out _ HI3.out).mono ?_
        rintro e w7 ⟨rfl, rfl⟩
        go_wp2_with fail
        refine (HRD.out _ HI3.out).mono ?_
        rintro e w8 ⟨rfl, rfl⟩
        go_wp2_with fail
        refine (HSA.out _ HE3.out H83.out).mono ?_
        rintro e w9 ⟨rfl, hb9⟩
        have HB9 := Lib.hid (below_trans0 HB3.out hb9)
        clear hb9
        go_wp2_with fail
        go_ret
        exact ⟨rfl, HB9.out⟩
      | some r =>
        obtain ⟨e5, e6⟩ := HYES.out r hal
        rw [e5, e6] at HAL
        obtain ⟨r1, r2, r3, r4⟩ := HSP.out r hal
        have gs : decide (sea (r : Int) t D < n) = false := by simpa using r3
        have gr : decide ((r : Int) < n) = false := by
          have := (HBD.out r).2; simp; omega
        have HS1 := Lib.hid (HSO.out r (by omega) D HD.out)
        rcases Nat.lt_or_ge 1 r with hr1 | hr1
        · obtain ⟨p, rfl⟩ : ∃ p, r = p + 1 := ⟨r - 1, by omega⟩
          have h4 := r4 p (by omega) (by omega)
          have gt : decide (n ≤ sea (p : Int) t D) = false := by simpa using h4
          have HS2 := Lib.hid (HSO.out p (by omega) D HD.out)
          have KW4 : Hid (wrap64 (p : Int) = p) := Lib.hid (by unfold wrap64; omega)
          have gq : decide ((1 : Int) < (p : Int) + 1) = true := by simp; omega
          rw [show ((p + 1 : Nat) : Int) = (p : Int) + 1 by omega] at HAL HS1 gs gr
          generalize sea ((p : Int) + 1) t D = s1 at *
          generalize sea (p : Int) t D = s2 at *
          clear hal e5 e6 HNO HYES HBIG HSP HBD r1 r2 r3 r4 h4 hr1
          refine (HAL.out _ HI2.out).mono ?_
          rintro e w3 ⟨rfl, hb3⟩
          have HB3 := Lib.hid (below_trans0 HB2.out hb3)
          have HI3 := Lib.hid (HI2.out.below hb3)
          have HE3 := Lib.hid (HE2.out.below hb3)
          have H83 := Lib.hid (Nat.le_trans H82.out hb3.size)
          clear hb3 HI2 HE2 H82 HB2
          go_wp2_with fail
          refine (HS1.out _ HI3.out).mono ?_
          rintro e w6 ⟨rfl, rfl⟩
          go_wp2_with fail
          rw [KW4.out]
          refine (HS2.out _ HI3.out).mono ?_
          rintro e w7 ⟨rfl, rfl⟩
          go_wp2_with fail
          refine (HRD.out _ HI3.out).mono ?_
          rintro e w8 ⟨rfl, rfl⟩
          go_wp2_with fail
          refine (HSA.out _ HE3.out H83.out).mono ?_
          rintro e w9 ⟨rfl, hb9⟩
          have HB9 := Lib.hid (below_trans0 HB3.out hb9)
          clear hb9
          go_wp2_with fail
          go_ret
          exact ⟨rfl, HB9.out⟩
        · obtain rfl : r = 1 := by omega
          rw [show ((1 : Nat) : Int) = 1 from rfl] at HAL HS1 gs gr
          generalize sea 1 t D = s1 at *
          clear hal e5 e6 HNO HYES HBIG HSP HBD r1 r2 r3 r4 hr1
          refine (HAL.out _ HI2.out).mono ?_
          rintro e w3 ⟨rfl, hb3⟩
          have HB3 := Lib.hid (below_trans0 HB2.out hb3)
          have HI3 := Lib.hid (HI2.out.below hb3)
          have HE3 := Lib.hid (HE2.out.below hb3)
          have H83 := Lib.hid (Nat.le_trans H82.out hb3.size)
          clear hb3 HI2 HE2 H82 HB2
          go_wp2_with fail
          refine (HS1.out _ HI3.out).mono ?_
          rintro e w6 ⟨rfl, rfl⟩
          go_wp2_with fail
          refine (HRD.out _ HI3.out).mono ?_
          rintro e w8 ⟨rfl, rfl⟩
          go_wp2_with fail
          refine (HSA.out _ HE3.out H83.out).mono ?_
          rintro e w9 ⟨rfl, hb9⟩
          have HB9 := Lib.hid (below_trans0 HB3.out hb9)
          clear hb9
          go_wp2_with fail
          go_ret
          exact ⟨rfl, HB9.out⟩
  · have hE2 : seE n t d = 2 := by
      have := ovE_val t (siz n && wai d)
      have h4 : ovE t (siz n && wai d) ≠ 4 := by
        unfold ovE; rw [if_neg (by have := HLEN.out; have := H60.out; omega)]
        split <;> decide
      unfold seE at hE0 ⊢; omega
    have hV := seV_of hE0
    rw [hE2, hV] at H1
    clear hE0 hE2 hV
    go_wp2_with fail
    refine (H1.out _ HI2.out).mono ?_
    rintro e w4 ⟨rfl, rfl⟩
    go_wp2_with fail
    refine (HSA.out _ HE2.out H82.out).mono ?_
    rintro e w3 ⟨rfl, hb3⟩
    have HB3 := Lib.hid (below_trans0 HB2.out hb3)
    clear hb3
    go_wp2_with fail
    go_ret
    exact ⟨rfl, HB3.out⟩
end Go.Proofs.YticjhkfidgkecaaGreatDoor
