/- The law of balances. -/
import Derived.Test.YtalfffkcmddakaaK3
import Derived.Test.YtalfffkcmddakaaG2
import Derived.Test.YtalfffkcmddakaaQ3
import Derived.Test.YtalfffkcmddakaaZ8
namespace Go.Proofs.Ytalfffkcmddakaa
open Go.RowKit Go.Shelf

theorem run_eqPr (x : Int × Int) (w : World) : (Op.equalIn 10000 38 (.agg (prA x)) (.agg (prA x))).run Try.prog w = .ok true w := by
  have u3 := Try.underlying3
  have a3 := Try.isAgg3
  have q3 := Try.sizeOf3
  rw [show (10000 : Nat) = 9999 + 1 from rfl, Op.equalIn]
  simp only [Sem.run_bind, run_underlying Try.underlying38, Result.andThen_ok]
  simp only [Std.Legacy.Range.forIn_eq_forIn_range', Std.Legacy.Range.size, Nat.sub_zero, Nat.add_sub_cancel, Nat.div_one, List.range'_succ, List.range'_zero, List.forIn_cons, List.forIn_nil]
  go_simp
theorem rows_ownP {W : World} {base : Nat} {v : Value} {xs : List (Int × Int)} {n : Nat} (hn : xs.length = n) (h : W.ownsRow base 38 2 v n (flt prL xs)) : ∃ A c, v = .slice A n c ∧ Rows prL 2 W A xs := by
  subst hn
  obtain ⟨A, c, e, h1, _, _⟩ := rows_of_owns encPr h
  exact ⟨A, c, e, h1⟩
theorem pr_cells {W : World} {b o : Nat} {r : Int × Int} (h : W.rangeAt b o (prL r)) : W.cell? ⟨b, o, none⟩ = some (.int .i64 r.1) ∧ W.cell? ⟨b, o + 1, none⟩ = some (.int .i64 r.2) := ⟨h 0 _ rfl, h 1 _ rfl⟩
set_option maxRecDepth 100000 in
set_option maxHeartbeats 8000000 in
theorem law_balances (A : Option Addr) (l : List Pl.En) (c n : Nat) (hn : l.length = n) (day : Int) (w : World) (hnc : n ≤ c) (hm : c ≤ maxLen) (hI : Rows enL 4 w A l) :
    Calls Try.prog 4 #[.slice A n c, .int .i64 day] w fun e w' => e = .returned (.bool true) ∧ Below w.heap.size w w' := by
  have hmn : n ≤ maxLen := Nat.le_trans hnc hm
  have H1 := Lib.hid (fun W (h : Below w.heap.size w W) => balance2_b A l c n hn hmn day W (hI.below h))
  have H2 := Lib.hid (fun W (h : Below w.heap.size w W) => dbalance2_b A l c n hn hnc hmn day W (hI.below h))
  have H3 := Lib.hid (fun W (h : Below w.heap.size w W) => running2_b A l c n hn hmn W (hI.below h))
  have H4 := Lib.hid (fun W (h : Below w.heap.size w W) => drunning2_b A l c n hn hnc hmn W (hI.below h))
  have HRL : Hid (∀ D, (Pl.ruE l = 0 → Pl.Vb l ∧ Pl.IsDs l D) → (Pl.ruE l ≠ 0 → D = []) → D.length ≤ 1000) := Lib.hid (fun D h1 h2 => by
    by_cases e : Pl.ruE l = 0
    · obtain ⟨h3, h4⟩ := h1 e
      have := h4.len; have := h3.len; omega
    · rw [h2 e]; simp)
  have HUQ : Hid (∀ D E, (Pl.ruE l = 0 → Pl.Vb l ∧ Pl.IsDs l D) → (Pl.ruE l ≠ 0 → D = []) → (Pl.ruE l = 0 → Pl.Vb l ∧ Pl.IsDs l E) → (Pl.ruE l ≠ 0 → E = []) → E = D) := Lib.hid (fun D E h1 h2 h3 h4 => by
    by_cases e : Pl.ruE l = 0
    · exact (h3 e).2.uniq (h1 e).2
    · rw [h2 e, h4 e])
  generalize Pl.baE l day = be at *
  generalize Pl.baV l day = bv at *
  generalize Pl.ruE l = re at *
  have HB0 := Lib.hid (Below.refl w.heap.size w)
  have n1 : (bv != bv) = false := by simp
  have n2 : (be != be) = false := by simp
  have n3 : (re != re) = false := by simp
  clear hn hnc hm hI hmn
  go_enter Try.func4, Try.ntmps4
  go_wp2_with fail
  refine (H1.out _ HB0.out).mono ?_
  rintro e w1 ⟨rfl, hb1⟩
  go_wp2_with fail
  refine (H2.out _ hb1).mono ?_
  rintro e w2 ⟨rfl, hb2⟩
  have HB2 := Lib.hid (hb1.trans (hb2.mono hb1.size))
  clear hb1 hb2
  go_wp2_with fail
  refine (H3.out _ HB2.out).mono ?_
  rintro e w3 ⟨v3, D, rfl, hd1, hd2, hO3, hb3⟩
  have HDL := Lib.hid (HRL.out D hd1 hd2)
  have HQ := Lib.hid (fun E h3 h4 => HUQ.out D E hd1 hd2 h3 h4)
  have HB3 := Lib.hid (HB2.out.trans (hb3.mono HB2.out.size))
  have HO3 := Lib.hid hO3
  clear hO3 hb3 hd1 hd2
  go_wp2_with fail
  refine (H4.out _ HB3.out).mono ?_
  rintro e w4 ⟨v4, E, rfl, hd1, hd2, hO4, hb4⟩
  obtain rfl := HQ.out E hd1 hd2
  obtain ⟨R, hR⟩ : ∃ R, Pl.run l E = R := ⟨_, rfl⟩
  obtain ⟨m, hm⟩ : ∃ m, E.length = m := ⟨_, rfl⟩
  have hRm : R.length = m := by rw [← hR, Pl.run_len, hm]
  have hm1000 : m ≤ 1000 := by rw [← hm]; exact HDL.out
  have hO3 := HO3.out
  rw [hR, hm] at hO3 hO4
  obtain ⟨A3, c3, rfl, hR3⟩ := rows_ownP hRm hO3
  obtain ⟨A4, c4, rfl, hR4⟩ := rows_ownP hRm hO4
  have HB4 := Lib.hid (HB3.out.trans (hb4.mono HB3.out.size))
  have HA := Lib.hid (hR3.below hb4)
  have HBB := Lib.hid hR4
  have HRM := Lib.hid hRm
  clear hO3 HO3 hO4 hb4 hR3 hR4 hR hm hRm hd1 hd2 HQ HDL
  go_wp2
  go_loopw [11, 54] (fun _ i wr => ∃ k : Nat, k ≤ m ∧ i = .int .i64 k ∧ Below w4.heap.size w4 wr) (fun _ i _ => m - (intOf i).toNat)
  case atStart => exact ⟨0, Nat.zero_le _, rfl, Below.refl _ _⟩
  case round =>
    obtain ⟨k, hk, rfl, hW⟩ := hrel
    obtain ⟨wo, rfl⟩ : ∃ wo, wo = wr := ⟨_, rfl⟩
    by_cases hlt : k < m
    · have hltI : (k : Int) < (m : Int) := by omega
      have hkx : k < R.length := by rw [HRM.out]; exact hlt
      obtain ⟨ba, oa, rfl, hba, hca⟩ := HA.out.open (by omega)
      obtain ⟨bb, ob, rfl, hbb, hcb⟩ := HBB.out.open (by omega)
      have rx := row_at hba hca hW hkx
      have ry := row_at hbb hcb hW hkx
      have hbx : ba < wo.heap.size := Nat.lt_of_lt_of_le hba hW.size
      have hby : bb < wo.heap.size := Nat.lt_of_lt_of_le hbb hW.size
      clear hca hcb
      generalize R[k] = r at *
      have a0 := fun s : Ext wo => (pr_cells (ext_range s rx hbx)).1
      have a1 := fun s : Ext wo => (pr_cells (ext_range s rx hbx)).2
      have b0 := fun s : Ext wo => (pr_cells (ext_range s ry hby)).1
      have b1 := fun s : Ext wo => (pr_cells (ext_range s ry hby)).2
      have heq := fun w => run_eqPr r w
      clear rx ry
      go_wp2
      refine wp_region_ext (by kernel_rfl) (by kernel_rfl) ?_
      repeat (go_big_quiet_step (fail))
      refine wpQuiet_nil ?_
      rintro _ ⟨s, rfl⟩
      go_wp2
      go_roundw
      case rel => exact ⟨k + 1, by omega, by go_num, hW.trans (s.h.mono hW.size)⟩
      case measure => simp [intOf]; omega
    · obtain rfl : k = m := by omega
      have HB5 := Lib.hid (HB4.out.trans (hW.mono HB4.out.size))
      go_wp2_with fail
      refine (awake_any wo).mono ?_
      rintro e w9 ⟨rfl, hb9⟩
      have HB9 := Lib.hid (HB5.out.trans (hb9.mono HB5.out.size))
      clear hb9
      go_wp2
      go_ret
      exact ⟨rfl, HB9.out⟩
end Go.Proofs.Ytalfffkcmddakaa
