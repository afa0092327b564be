/- The law of dues. -/
import Derived.Test.YtalfffkcmddakaaD4
import Derived.Test.YtalfffkcmddakaaZ8
namespace Go.Proofs.Ytalfffkcmddakaa
open Go.RowKit Go.Shelf

theorem du_len (l : List Pl.En) (d a : Int) : (Pl.duV l d a).length ≤ 1000 := by
  unfold Pl.duV
  split
  · rename_i h
    have h1 := Pl.dul_len l (Pl.srt l) d a
    have h2 : Pl.vB l = true := by
      unfold Pl.duE at h
      cases e : Pl.vB l
      · rw [e] at h; simp at h
      · rfl
    have h3 := (Pl.vb_iff.1 h2).len
    rw [Pl.srt_len] at h1
    omega
  · simp
theorem rows_ownI {W : World} {base : Nat} {v : Value} {xs : List Int} {n : Nat} (hn : xs.length = n) (h : W.ownsRow base 3 1 v n (flt inL xs)) : ∃ A c, v = .slice A n c ∧ Rows inL 1 W A xs := by
  subst hn
  obtain ⟨A, c, e, h1, _, _⟩ := rows_of_owns encIn h
  exact ⟨A, c, e, h1⟩
set_option maxRecDepth 100000 in
set_option maxHeartbeats 8000000 in
theorem law_dues (A : Option Addr) (l : List Pl.En) (c n : Nat) (hn : l.length = n) (ref day aft : Int) (wf : (Lit.int .i64 ref).wf = true) (w : World) (hnc : n ≤ c) (hm : c ≤ maxLen) (hI : Rows enL 4 w A l) :
    Calls Try.prog 5 #[.slice A n c, .int .i64 ref, .int .i64 day, .int .i64 aft] w fun e w' => e = .returned (.bool true) ∧ Below w.heap.size w w' := by
  have hmn : n ≤ maxLen := Nat.le_trans hnc hm
  have H1 := Lib.hid (fun W (h : Below w.heap.size w W) => settled2_b A l c n hn hmn ref day wf W (hI.below h))
  have H2 := Lib.hid (fun W (h : Below w.heap.size w W) => dsettled2_b A l c n hn hnc hmn ref day W (hI.below h))
  have H3 := Lib.hid (fun W (h : Below w.heap.size w W) => due2_b A l c n hn hmn day aft W (hI.below h))
  have H4 := Lib.hid (fun W (h : Below w.heap.size w W) => ddue2_b A l c n hn hnc hmn day aft W (hI.below h))
  have HLL := Lib.hid (du_len l day aft)
  generalize Pl.stE l ref day = se at *
  generalize Pl.stV l ref day = sv at *
  generalize Pl.duE l day aft = de at *
  generalize Pl.duV l day aft = dv at *
  obtain ⟨m, hdm⟩ : ∃ m, dv.length = m := ⟨_, rfl⟩
  have HM := Lib.hid hdm
  have hm1000 : m ≤ 1000 := by rw [← hdm]; exact HLL.out
  have HB0 := Lib.hid (Below.refl w.heap.size w)
  have n1 : (sv != sv) = false := by simp
  have n2 : (se != se) = false := by simp
  have n3 : (de != de) = false := by simp
  clear hn hnc hm hI hmn wf hdm
  go_enter Try.func5, Try.ntmps5
  go_wp2_with fail
  refine (H1.out _ HB0.out).mono ?_
  rintro e w1 ⟨rfl, hb1⟩
  go_wp2_with fail
  refine (H2.out _ hb1).mono ?_
  rintro e w2 ⟨rfl, hb2⟩
  have HB2 := Lib.hid (hb1.trans (hb2.mono hb1.size))
  clear hb1 hb2
  go_wp2_with fail
  refine (H3.out _ HB2.out).mono ?_
  rintro e w3 ⟨v3, rfl, hO3, hb3⟩
  rw [HM.out] at hO3
  obtain ⟨A3, c3, rfl, hR3⟩ := rows_ownI HM.out hO3
  have HB3 := Lib.hid (HB2.out.trans (hb3.mono HB2.out.size))
  clear hO3 hb3
  go_wp2_with fail
  refine (H4.out _ HB3.out).mono ?_
  rintro e w4 ⟨v4, rfl, hO4, hb4⟩
  rw [HM.out] at hO4
  obtain ⟨A4, c4, rfl, hR4⟩ := rows_ownI HM.out hO4
  have HB4 := Lib.hid (HB3.out.trans (hb4.mono HB3.out.size))
  have HA := Lib.hid (hR3.below hb4)
  have HBB := Lib.hid hR4
  clear hO4 hb4 hR3 hR4
  go_wp2
  go_loopw [15, 64] (fun _ i wr => ∃ k : Nat, k ≤ m ∧ i = .int .i64 k ∧ Below w4.heap.size w4 wr) (fun _ i _ => m - (intOf i).toNat)
  case atStart => exact ⟨0, Nat.zero_le _, rfl, Below.refl _ _⟩
  case round =>
    obtain ⟨k, hk, rfl, hW⟩ := hrel
    obtain ⟨wo, rfl⟩ : ∃ wo, wo = wr := ⟨_, rfl⟩
    by_cases hlt : k < m
    · have hltI : (k : Int) < (m : Int) := by omega
      have hkx : k < dv.length := by rw [HM.out]; exact hlt
      obtain ⟨ba, oa, rfl, hba, hca⟩ := HA.out.open (by omega)
      obtain ⟨bb, ob, rfl, hbb, hcb⟩ := HBB.out.open (by omega)
      have p0 := row_cell (mk := Value.int .i64) hba hca hW hkx
      have p1 := row_cell (mk := Value.int .i64) hbb hcb hW hkx
      clear hca hcb
      generalize dv[k] = x at *
      have y0 := fun s : Ext wo => s.cell (p := ⟨ba, oa + k, none⟩) p0
      have y1 := fun s : Ext wo => s.cell (p := ⟨bb, ob + k, none⟩) p1
      clear p0 p1
      go_wp2
      refine wp_region_ext (by kernel_rfl) (by kernel_rfl) ?_
      repeat (go_big_quiet_step (fail))
      refine wpQuiet_nil ?_
      rintro _ ⟨s, rfl⟩
      go_wp2
      go_roundw
      case rel => exact ⟨k + 1, by omega, by go_num, hW.trans (s.h.mono hW.size)⟩
      case measure => simp [intOf]; omega
    · obtain rfl : k = m := by omega
      have HB5 := Lib.hid (HB4.out.trans (hW.mono HB4.out.size))
      go_wp2_with fail
      refine (awake_any wo).mono ?_
      rintro e w9 ⟨rfl, hb9⟩
      have HB9 := Lib.hid (HB5.out.trans (hb9.mono HB5.out.size))
      clear hb9
      go_wp2
      go_ret
      exact ⟨rfl, HB9.out⟩
end Go.Proofs.Ytalfffkcmddakaa
