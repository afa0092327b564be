/- IsGuard, of the document. -/
import Derived.Test.YtmjnlmmjfbpogaaS5
import Derived.Test.YtmjnlmmjfbpogaaP12
namespace Go.Proofs.Ytmjnlmmjfbpogaa
open Go.RowKit Go.Shelf

/-- the cell of a number -/
abbrev iic (i : Int) : List Value := [.int .i64 i]

set_option maxRecDepth 100000 in
set_option maxHeartbeats 16000000 in
theorem rIsGuard_any (A : Option Addr) (l : List Pl.Tm) (c n : Nat) (hn : l.length = n) (tol : Int) (AL : Option Addr) (L : List Int) (cl m : Nat) (hm : L.length = m) (hm6 : m ≤ 600) (w : World) (hI : Tms w A l) (hL : Rows iic 1 w AL L) :
    Calls Try.prog 33 #[.slice A n c, .int .i64 tol, .slice AL m cl] w fun e w' => e = .returned (.tuple #[.bool (Pl.igV l tol L), .int .i64 (Pl.igE l tol L)]) ∧ Below w.heap.size w w' := by
  obtain ⟨v, hv⟩ : ∃ v, Pl.ck l tol = v := ⟨_, rfl⟩
  have HC := Lib.hid (asked_b A l c tol v hv w hI)
  rw [hn] at HC
  have HI := Lib.hid hI
  by_cases h0 : v = 0
  rotate_left
  · have h1 : (v != 0) = true := by simp [h0]
    have e1 : Pl.igV l tol L = false := by unfold Pl.igV; rw [if_neg (by rw [hv]; exact h0)]
    have e2 : Pl.igE l tol L = v := by unfold Pl.igE; rw [if_neg (by rw [hv]; exact h0), hv]
    rw [e1, e2]
    clear h0 hv hI hn hL hm e1 e2
    go_enter Try.func33, Try.ntmps33
    go_wp2_with fail
    refine HC.out.mono ?_
    rintro e w1 ⟨rfl, hb1⟩
    go_wp2
    go_ret2
    exact ⟨rfl, hb1⟩
  · subst h0
    obtain ⟨h1, h2⟩ := Pl.ck_ok hv
    have hok := Pl.ok_of h1
    have hl : n ≤ 60 := hn ▸ hok.len
    have HOK := Lib.hid hok
    have HN := Lib.hid hn
    have HML := Lib.hid hm
    have HL := Lib.hid hL
    obtain ⟨g0, hg0⟩ : ∃ g0, Pl.gi n L Pl.noS = g0 := ⟨_, rfl⟩
    have HG : Hid (Pl.gi n (L.drop 0) Pl.noS = g0) := Lib.hid (by rw [List.drop_zero]; exact hg0)
    have HNO : Hid (g0 = none → Pl.igV l tol L = false ∧ Pl.igE l tol L = 2) := Lib.hid (fun h => by unfold Pl.igV Pl.igE; rw [if_pos hv, if_pos hv, hn, hg0, h]; exact ⟨rfl, rfl⟩)
    have HSO : Hid (∀ u, g0 = some u → Pl.igV l tol L = Pl.gd l tol u ∧ Pl.igE l tol L = 0) := Lib.hid (fun u h => by unfold Pl.igV Pl.igE; rw [if_pos hv, if_pos hv, hn, hg0, h]; exact ⟨rfl, rfl⟩)
    generalize Pl.igV l tol L = V at *
    generalize Pl.igE l tol L = E at *
    obtain ⟨i1, hi1, hz1, hn1, hy1⟩ := info_parts info4
    clear hv h1 h2 hI hok hL hn hm hg0
    go_enter Try.func33, Try.ntmps33
    go_wp2_with fail
    refine HC.out.mono ?_
    rintro e w1 ⟨rfl, hB1⟩
    have hmk := run_make w1 76 4 i1 (.bool false) Try.underlying76 hi1 hz1 .i64 .i64 n n (by omega) (by omega) (by rw [hy1]; omega) (by omega)
    rw [Int.toNat_natCast, hn1, Nat.mul_one] at hmk
    have hst := StB.new w1 n
    have hB2 := hB1.alloc hB1.size (.cells (madeCells #[.bool false] n) 4)
    change Sem.run _ _ _ = Result.ok _ (w1.alloc (.cells (madeCells #[.bool false] n) 4)) at hmk
    have hg := hB1.size
    generalize w1.alloc (.cells (madeCells #[.bool false] n) 4) = w2 at *
    generalize w1.heap.size = g at *
    have hst0 : StB w2 g n Pl.noS := hst
    clear hi1 hz1 hn1 hy1 HC hB1 hst
    go_wp2
    clear hmk
    go_loopw [10] (fun i wr => ∃ k : Nat, ∃ u, k ≤ m ∧ i = .int .i64 k ∧ StB wr g n u ∧ Hid (Pl.gi n (L.drop k) u = g0) ∧ Below w.heap.size w wr) (fun i _ => m - (intOf i).toNat)
    case atStart => exact ⟨0, _, Nat.zero_le _, rfl, hst0, HG, hB2⟩
    case round =>
      clear hst0 HG hB2
      obtain ⟨k, u, hk, rfl, hst, hgi, hB⟩ := hrel
      obtain ⟨wo, rfl⟩ : ∃ wo, wo = wr := ⟨_, rfl⟩
      by_cases hlt : k < m
      · have hkI : (k : Int) < (m : Int) := by omega
        have hkL : k < L.length := by rw [HML.out]; exact hlt
        obtain ⟨bl, ol, rfl, hbl, hcl⟩ := HL.out.open (by omega)
        have hck := rangeAt_below (hcl k hkL) hbl hB
        have HST := Lib.hid ((Pl.gi_step hkL u).symm.trans hgi.out)
        clear hcl hgi
        generalize L[k] = x at *
        have q0 : wo.cell? ⟨bl, ol + k, none⟩ = some (.int .i64 x) := by have := hck 0 _ rfl; rwa [Nat.mul_one] at this
        clear hck hkL
        obtain ⟨y, hy⟩ : ∃ y, decide (0 ≤ x ∧ x < (n : Int)) = y := ⟨_, rfl⟩
        have HY := Lib.hid hy
        cases y with
        | false =>
          have HF := Lib.hid (HNO.out (HST.out.symm.trans (if_neg (fun h => of_decide_eq_false hy h.1))))
          clear hy
          go_wp2_with fail
          refine (risindex_b x _ n c _ HY.out _).mono ?_
          rintro e w3 ⟨rfl, rfl⟩
          go_wp2
          go_ret2
          exact ⟨by rw [HF.out.1, HF.out.2]; rfl, hB⟩
        | true =>
          obtain ⟨hx0, hx1⟩ := of_decide_eq_true hy
          obtain ⟨i, rfl⟩ : ∃ i : Nat, x = i := ⟨x.toNat, by omega⟩
          have hin : i < n := by omega
          have ci := hst.cell hin
          have fi := hst.frozen i
          obtain ⟨z, hz⟩ : ∃ z, u i = z := ⟨_, rfl⟩
          rw [hz] at ci
          have HZ := Lib.hid hz
          clear hz
          cases z with
          | true =>
            have HF := Lib.hid (HNO.out (HST.out.symm.trans (if_neg (fun h => by have := h.2; rw [Int.toNat_natCast, HZ.out] at this; cases this))))
            clear hy
            go_wp2_with fail
            refine (risindex_b i _ n c _ HY.out _).mono ?_
            rintro e w3 ⟨rfl, rfl⟩
            go_wp2
            go_ret2
            exact ⟨by rw [HF.out.1, HF.out.2]; rfl, hB⟩
          | false =>
            have HNX : Hid (Pl.gi n (L.drop (k + 1)) (Pl.see u i) = g0) := Lib.hid (by
              have := HST.out
              rw [if_pos ⟨of_decide_eq_true hy, by rw [Int.toNat_natCast]; exact HZ.out⟩, Int.toNat_natCast] at this
              exact this)
            have hs2 := hst.set (f' := Pl.see u i) i true (fun q _ => by unfold Pl.see; by_cases e : q = i <;> simp [e])
            have hB2 := hB.trans ((Only.setCell g wo i (.bool true)).below hg)
            clear hy hst hB HST
            go_wp2_with fail
            refine (risindex_b i _ n c _ HY.out _).mono ?_
            rintro e w3 ⟨rfl, rfl⟩
            go_wp2
            go_roundw
            case rel => exact ⟨k + 1, _, by omega, by go_num, hs2, HNX, hB2⟩
            case measure => simp [intOf]; omega
      · obtain rfl : k = m := by omega
        have HGU := Lib.hid (HSO.out u ((Pl.gi_end (by rw [HML.out]; exact Nat.le_refl _) u).symm.trans hgi.out).symm)
        have H0 : Hid (Pl.Gd l tol u 0 0) := Lib.hid Pl.Gd.start
        have hgl := hst.lt
        clear hgi hlt hk
        go_wp2
        go_loopw [11, 12] (fun i _ wr => ∃ a : Nat, a ≤ n ∧ i = .int .i64 a ∧ Hid (Pl.Gd l tol u a 0) ∧ Below wo.heap.size wo wr) (fun i _ _ => n - (intOf i).toNat)
        case atStart => exact ⟨0, Nat.zero_le _, rfl, H0, Below.refl _ _⟩
        case round =>
          clear H0
          obtain ⟨a, ha, rfl, hgd, hBa⟩ := hrel
          obtain ⟨wa, rfl⟩ : ∃ wa, wa = wr := ⟨_, rfl⟩
          by_cases hlt : a < n
          · have haI : (a : Int) < (n : Int) := by omega
            have hal : a < l.length := by rw [HN.out]; exact hlt
            obtain ⟨bz, oz, rfl, hbz, hcz⟩ := tms_open HI.out (by omega)
            have HCZ := Lib.hid hcz
            have HAL := Lib.hid hal
            clear hcz hal
            go_wp2
            go_loopw [12] (fun j wr => ∃ b : Nat, b ≤ a ∧ j = .int .i64 b ∧ Hid (Pl.Gd l tol u a b) ∧ Below wo.heap.size wo wr) (fun j _ => a - (intOf j).toNat)
            case atStart => exact ⟨0, Nat.zero_le _, rfl, hgd, hBa⟩
            case round =>
              clear hgd hBa
              obtain ⟨b, hb, rfl, hgd, hBb⟩ := hrel
              obtain ⟨wp, rfl⟩ : ∃ wp, wp = wr := ⟨_, rfl⟩
              by_cases hba : b < a
              · have hbI : (b : Int) < (n : Int) := by omega
                have hbn : b < n := by omega
                have hbl : b < l.length := by rw [HN.out]; exact hbn
                have va := HOK.out.vt a HAL.out
                have vb := HOK.out.vt b hbl
                have hBw := hB.trans (hBb.mono hB.size)
                have hd := rcan_b (Pl.at' l a) (Pl.at' l b) tol _ rfl (vt_wrap va vb) (vt_wrap vb va)
                obtain ⟨x, hx⟩ : ∃ x, Pl.can (Pl.at' l a) (Pl.at' l b) tol = x := ⟨_, rfl⟩
                rw [hx] at hd
                have HD := Lib.hid hd
                have HX := Lib.hid hx
                have ya0 := fun e : Ext wp => e.cell (tms_cells hbz HCZ.out hBw HAL.out).1
                have ya1 := fun e : Ext wp => e.cell (tms_cells hbz HCZ.out hBw HAL.out).2.1
                have ya2 := fun e : Ext wp => e.cell (tms_cells hbz HCZ.out hBw HAL.out).2.2.1
                have ya3 := fun e : Ext wp => e.cell (tms_cells hbz HCZ.out hBw HAL.out).2.2.2
                have yb0 := fun e : Ext wp => e.cell (tms_cells hbz HCZ.out hBw hbl).1
                have yb1 := fun e : Ext wp => e.cell (tms_cells hbz HCZ.out hBw hbl).2.1
                have yb2 := fun e : Ext wp => e.cell (tms_cells hbz HCZ.out hBw hbl).2.2.1
                have yb3 := fun e : Ext wp => e.cell (tms_cells hbz HCZ.out hBw hbl).2.2.2
                have hstp := hst.below hBb hgl
                obtain ⟨z1, hz1⟩ : ∃ z, u a = z := ⟨_, rfl⟩
                obtain ⟨z2, hz2⟩ : ∃ z, u b = z := ⟨_, rfl⟩
                have ua := fun e : Ext wp => e.cell (hstp.cell hlt)
                have ub := fun e : Ext wp => e.cell (hstp.cell hbn)
                rw [hz1] at ua
                rw [hz2] at ub
                have HGK : Hid (Pl.gdk l tol u a b = (x && (!z1 && !z2))) := Lib.hid (by unfold Pl.gdk; rw [hx, hz1, hz2])
                clear hd hx va vb hz1 hz2 hbl hstp
                have hc : (x = true ∧ z1 = false ∧ z2 = false) ∨ x = false ∨ (x = true ∧ z1 = true) ∨ (x = true ∧ z1 = false ∧ z2 = true) := by cases x <;> cases z1 <;> cases z2 <;> simp
                go_wp2
                rcases hc with ⟨rfl, rfl, rfl⟩ | rfl | ⟨rfl, rfl⟩ | ⟨rfl, rfl, rfl⟩
                · have HF := Lib.hid (Pl.gd_no HAL.out hba HGK.out)
                  refine wp_region_ext (by kernel_rfl) (by kernel_rfl) ?_
                  repeat (go_big_quiet_step ((go_at_call 51; refine calls_ext (HD.out _))))
                  refine wpQuiet_nil ?_
                  rintro _ ⟨s, rfl⟩
                  have hB5 := hBw.trans (s.h.mono hBw.size)
                  clear ya0 ya1 ya2 ya3 yb0 yb1 yb2 yb3 ua ub
                  go_wp2
                  go_ret2
                  exact ⟨by rw [HGU.out.1, HGU.out.2, HF.out]; rfl, hB5⟩
                all_goals
                  have HNX : Hid (Pl.Gd l tol u a (b + 1)) := Lib.hid (hgd.out.next (HGK.out.trans (by simp)))
                  refine wp_region_ext (by kernel_rfl) (by kernel_rfl) ?_
                  repeat (go_big_quiet_step ((go_at_call 51; refine calls_ext (HD.out _))))
                  refine wpQuiet_nil ?_
                  rintro _ ⟨s, rfl⟩
                  have hB5 := hBb.trans (s.h.mono hBb.size)
                  clear ya0 ya1 ya2 ya3 yb0 yb1 yb2 yb3 ua ub
                  go_wp2
                  go_roundw
                  case rel => exact ⟨b + 1, by omega, by go_num, HNX, hB5⟩
                  case measure => simp [intOf]; omega
              · obtain rfl : b = a := by omega
                have HNX : Hid (Pl.Gd l tol u (b + 1) 0) := Lib.hid hgd.out.row
                go_wp2
                go_roundw
                case rel => exact ⟨b + 1, by omega, by go_num, HNX, hBb⟩
                case measure => simp [intOf]; omega
          · obtain rfl : a = n := by omega
            have HF := Lib.hid (Pl.Gd.fin (l := l) (tol := tol) (u := u) (by rw [HN.out]; exact hgd.out))
            go_wp2
            go_ret2
            exact ⟨by rw [HGU.out.1, HGU.out.2, HF.out]; rfl, hB.trans (hBa.mono hB.size)⟩
end Go.Proofs.Ytmjnlmmjfbpogaa
