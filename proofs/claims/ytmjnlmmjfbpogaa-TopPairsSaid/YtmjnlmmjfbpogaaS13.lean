/- guard, Guard, of the program. -/
import Derived.Test.YtmjnlmmjfbpogaaS12
namespace Go.Proofs.Ytmjnlmmjfbpogaa
open Go.RowKit Go.Shelf Go.Sort Go.Lib

namespace Pl
/-- the guard of the first k -/
def guk (l : List Tm) (S : Nat → Bool) (k : Nat) : List Nat := (List.range k).filter fun i => S i == decide ((at' l i).side = 2)
theorem guk_yes {l : List Tm} {S : Nat → Bool} {k : Nat} (h : (S k == decide ((at' l k).side = 2)) = true) : guk l S (k + 1) = guk l S k ++ [k] := by
  unfold guk
  rw [List.range_succ, List.filter_append]
  simp [h]
theorem guk_no {l : List Tm} {S : Nat → Bool} {k : Nat} (h : (S k == decide ((at' l k).side = 2)) = false) : guk l S (k + 1) = guk l S k := by
  unfold guk
  rw [List.range_succ, List.filter_append]
  simp [h]
theorem guk_len {l : List Tm} {S : Nat → Bool} {k : Nat} : (guk l S k).length ≤ k := by
  have := List.length_filter_le (fun i => S i == decide ((at' l i).side = 2)) (List.range k)
  rw [List.length_range] at this
  exact this
end Pl

set_option maxRecDepth 100000 in
set_option maxHeartbeats 16000000 in
theorem guard_any (A : Option Addr) (l : List Pl.Tm) (c n : Nat) (hn : l.length = n) (ho : Pl.Ok l) (tol : Int) (ht : 0 ≤ tol ∧ tol ≤ 1000) (w : World) (hI : Tms w A l) :
    Calls Try.prog 64 #[.slice A n c, .int .i64 tol] w fun e w' => ∃ v S, e = .returned v ∧ Pl.Rt l tol l.length S ∧ w'.ownsRow w.heap.size 3 1 v (Pl.gu l S).length (flt irc (Pl.gu l S)) ∧ Below w.heap.size w w' := by
  have hl : n ≤ 60 := hn ▸ ho.len
  have HI := Lib.hid hI
  have HN := Lib.hid hn
  have HM := Lib.hid (match_any A l c n hn ho tol ht w hI)
  have HRE := Lib.hid (fun Ap cp m hm (w' : World) hI hP => reach_any A l c n hn ho tol ht Ap cp m hm w' hI hP)
  clear hI hn ho ht
  obtain ⟨i0, hi, hz0, hz01, hz2⟩ := info_parts info3'
  go_enter Try.func64, Try.ntmps64
  go_wp2_with fail
  refine HM.out.mono ?_
  rintro e w1 ⟨v1, rfl, hown, hB1⟩
  obtain ⟨A1, c1, rfl, hr1, _, _⟩ := rows_of_owns encPr hown
  have HP := Lib.hid hr1
  have HI1 := Lib.hid (HI.out.below hB1)
  clear hown hr1 HM
  go_wp2_with fail
  refine (HRE.out A1 c1 _ rfl _ HI1.out HP.out).mono ?_
  rintro e w2 ⟨rb, S, rfl, hst, hrt, hb2⟩
  have hB2 := hB1.trans (hb2.mono hB1.size)
  have HRT := Lib.hid hrt
  clear hrt hb2 hB1 HP HI1 HRE
  go_wp2
  go_loopw [6, 17] (fun v i wr => ∃ q : Nat, q ≤ n ∧ i = .int .i64 q ∧ wr.ownsRow w2.heap.size 3 1 v (Pl.guk l S q).length (flt irc (Pl.guk l S q)) ∧ Below w2.heap.size w2 wr) (fun _ i _ => n - (intOf i).toNat)
  case atStart => exact ⟨0, Nat.zero_le _, rfl, World.ownsRow_nil _ _ _ _, Below.refl _ _⟩
  case round =>
    obtain ⟨q, hq, rfl, hown, hB⟩ := hrel
    obtain ⟨wo, rfl⟩ : ∃ wo, wo = wr := ⟨_, rfl⟩
    by_cases hlt : q < n
    · have hqI : (q : Int) < (n : Int) := by omega
      have hql : q < l.length := by rw [HN.out]; exact hlt
      obtain ⟨bz, oz, rfl, hbz, hcz⟩ := tms_open HI.out (by omega)
      have hck := rangeAt_below (hcz q hql) hbz (hB2.trans (hB.mono hB2.size))
      rw [Pl.at_getD hql] at hck
      have hb := (Below.refl wo.heap.size wo).alloc (Nat.le_refl _) (.cells (tmA (Pl.at' l q)) 24)
      have bT := Blk.new wo 24 (tmA (Pl.at' l q))
      have hsq := (hst.below hB hst.lt).alloc (.cells (tmA (Pl.at' l q)) 24)
      obtain ⟨x, hx⟩ : ∃ x, S q = x := ⟨_, rfl⟩
      obtain ⟨y, hy⟩ : ∃ y, decide ((Pl.at' l q).side = 2) = y := ⟨_, rfl⟩
      have E1 : ((Pl.at' l q).side == 2) = y := eqB.trans hy
      have hcq := hsq.cell hlt
      rw [hx] at hcq
      have z1 := fun e : Ext (wo.alloc (.cells (tmA (Pl.at' l q)) 24)) => e.cell hcq
      have z2 := fun e : Ext (wo.alloc (.cells (tmA (Pl.at' l q)) 24)) => e.cell ((bT.cell 1).trans rfl)
      have hown1 := own_keep hown hb
      have hB5 := hB.trans (hb.mono hB.size)
      have HXY : Hid ((S q == decide ((Pl.at' l q).side = 2)) = (x == y)) := Lib.hid (by rw [hx, hy])
      clear hcz hown hB hb bT hsq hcq hx hy hql
      go_wp2_with (refine ldm_tm hck rfl _ rfl rfl ?_)
      clear hck
      refine wp_region_ext (by kernel_rfl) (by kernel_rfl) ?_
      repeat (go_big_quiet_step (fail))
      refine wpQuiet_nil ?_
      rintro _ ⟨s, rfl⟩
      have hown2 := own_keep hown1 s.h
      have hB6 := hB5.trans (s.h.mono hB5.size)
      clear z1 z2 hown1 hB5
      generalize s.w = w6 at *
      clear s
      cases x <;> cases y
      · have HNX := Lib.hid (Pl.guk_yes HXY.out)
        have hlr : (Pl.guk l S q).length ≤ q := Pl.guk_len
        generalize Pl.guk l S q = R at *
        have HOW := Lib.hid (hown2.alloc (.cells (irc q).toArray 3))
        go_wp2_with (at_builtin; refine wpList_append_own _ rfl _ _ 41 rfl w2.heap.size 3 i0 _ 1 8 Try.underlying41 hi hz0 hz01 hz2 rfl (by decide) _ _ _ rfl HOW.out ⟨w6.heap.size, 0, none⟩ 1 1 (irc q) rfl rfl (new_cells' _ _ _ rfl) (encIr.one q) (by unfold maxLen; omega) (by omega) (by have := hB6.size; simp; omega) ?_; intro v' w9 hown' hgrow _)
        have hB9 := (hB6.alloc hB6.size (.cells (irc q).toArray 3)).grown hgrow (hB6.alloc hB6.size _).size (fun s e => (hown2.lt s e).1)
        go_roundw
        case rel => exact ⟨q + 1, by omega, by go_num, by rw [HNX.out, List.length_append, flt_append, flt_one]; exact hown', hB9⟩
        case measure => simp [intOf]; omega
      · have HNX := Lib.hid (Pl.guk_no HXY.out)
        go_wp2
        go_roundw
        case rel => exact ⟨q + 1, by omega, by go_num, by rw [HNX.out]; exact hown2, hB6⟩
        case measure => simp [intOf]; omega
      · have HNX := Lib.hid (Pl.guk_no HXY.out)
        go_wp2
        go_roundw
        case rel => exact ⟨q + 1, by omega, by go_num, by rw [HNX.out]; exact hown2, hB6⟩
        case measure => simp [intOf]; omega
      · have HNX := Lib.hid (Pl.guk_yes HXY.out)
        have hlr : (Pl.guk l S q).length ≤ q := Pl.guk_len
        generalize Pl.guk l S q = R at *
        have HOW := Lib.hid (hown2.alloc (.cells (irc q).toArray 3))
        go_wp2_with (at_builtin; refine wpList_append_own _ rfl _ _ 41 rfl w2.heap.size 3 i0 _ 1 8 Try.underlying41 hi hz0 hz01 hz2 rfl (by decide) _ _ _ rfl HOW.out ⟨w6.heap.size, 0, none⟩ 1 1 (irc q) rfl rfl (new_cells' _ _ _ rfl) (encIr.one q) (by unfold maxLen; omega) (by omega) (by have := hB6.size; simp; omega) ?_; intro v' w9 hown' hgrow _)
        have hB9 := (hB6.alloc hB6.size (.cells (irc q).toArray 3)).grown hgrow (hB6.alloc hB6.size _).size (fun s e => (hown2.lt s e).1)
        go_roundw
        case rel => exact ⟨q + 1, by omega, by go_num, by rw [HNX.out, List.length_append, flt_append, flt_one]; exact hown', hB9⟩
        case measure => simp [intOf]; omega
    · obtain rfl : q = n := by omega
      go_wp2
      go_ret
      have e : Pl.guk l S q = Pl.gu l S := by unfold Pl.guk Pl.gu; rw [HN.out]
      rw [e] at hown
      first | exact ⟨_, S, rfl, by rw [HN.out]; exact HRT.out, own_mono hown hB2.size, hB2.trans (hB.mono hB2.size)⟩ | exact ⟨_, rfl, S, by rw [HN.out]; exact HRT.out, own_mono hown hB2.size, hB2.trans (hB.mono hB2.size)⟩
end Go.Proofs.Ytmjnlmmjfbpogaa
