/- Same of any two lists; equality of differences; cells of differences. -/
import Derived.Test.YtalfffkcmddakaaS2
import Derived.Test.YtalfffkcmddakaaQ3
namespace Go.Proofs.Ytalfffkcmddakaa
open Go.RowKit Go.Shelf

set_option maxRecDepth 100000 in
set_option maxHeartbeats 8000000 in
theorem dSame_b (A B : Option Addr) (xs ys : List Pl.En) (c d n m : Nat) (hn : xs.length = n) (hm : ys.length = m) (hn4 : n ≤ 1000) (hm4 : m ≤ 1000) (v : Bool) (hv : decide (xs = ys) = v) (w : World) (hA : Rows enL 4 w A xs) (hB : Rows enL 4 w B ys) :
    Calls Try.prog 46 #[.slice A n c, .slice B m d] w fun e w' => e = .returned (.bool v) ∧ Below w.heap.size w w' := by
  by_cases hnm : n = m
  case neg =>
    have h1 : ((n : Int) != (m : Int)) = true := by simp; omega
    have HV : Hid (v = false) := Lib.hid (by rw [← hv]; exact decide_eq_false fun e => hnm (by rw [← hn, ← hm, e]))
    clear hA hB hn hm hv hnm
    go_enter Try.func46, Try.ntmps46
    go_wp2
    go_ret
    exact ⟨by rw [HV.out]; rfl, Below.refl _ _⟩
  case pos =>
  subst hnm
  have HA := Lib.hid hA
  have HBB := Lib.hid hB
  have HN := Lib.hid hn
  have HM := Lib.hid hm
  have HV := Lib.hid hv
  clear hA hB hn hm hv
  go_enter Try.func46, Try.ntmps46
  go_wp2
  go_loopw [5, 13] (fun _ i wr => ∃ k : Nat, k ≤ n ∧ i = .int .i64 k ∧ Hid (∀ (i : Nat) (h1 : i < xs.length) (h2 : i < ys.length), i < k → xs[i] = ys[i]) ∧ Below w.heap.size w wr) (fun _ i _ => n - (intOf i).toNat)
  case atStart => exact ⟨0, Nat.zero_le _, rfl, Lib.hid (fun i _ _ h => absurd h (Nat.not_lt_zero _)), Below.refl _ _⟩
  case round =>
    obtain ⟨k, hk, rfl, HE, hW⟩ := hrel
    obtain ⟨wo, rfl⟩ : ∃ wo, wo = wr := ⟨_, rfl⟩
    by_cases hlt : k < n
    · have hltI : (k : Int) < (n : Int) := by omega
      have hkx : k < xs.length := by rw [HN.out]; exact hlt
      have hky : k < ys.length := by rw [HM.out]; exact hlt
      obtain ⟨ba, oa, rfl, hba, hca⟩ := HA.out.open (by omega)
      obtain ⟨bb, ob, rfl, hbb, hcb⟩ := HBB.out.open (by omega)
      have rx := row_at hba hca hW hkx
      have ry := row_at hbb hcb hW hky
      have hbx : ba < wo.heap.size := Nat.lt_of_lt_of_le hba hW.size
      have hby : bb < wo.heap.size := Nat.lt_of_lt_of_le hbb hW.size
      have HNE : Hid (xs[k] ≠ ys[k] → v = false) := Lib.hid (fun h => by rw [← HV.out]; exact decide_eq_false fun e => h (by subst e; rfl))
      have HST : Hid (xs[k] = ys[k] → ∀ (i : Nat) (h1 : i < xs.length) (h2 : i < ys.length), i < k + 1 → xs[i] = ys[i]) := Lib.hid (fun h i h1 h2 hi => by
        by_cases e : i = k
        · subst e; exact h
        · exact HE.out i h1 h2 (by omega))
      clear hca hcb
      generalize xs[k] = r at *
      generalize ys[k] = s at *
      have a0 := fun s : Ext wo => (en_cells (ext_range s rx hbx)).1
      have a1 := fun s : Ext wo => (en_cells (ext_range s rx hbx)).2.1
      have a2 := fun s : Ext wo => (en_cells (ext_range s rx hbx)).2.2.1
      have a3 := fun s : Ext wo => (en_cells (ext_range s rx hbx)).2.2.2
      have b0 := fun s : Ext wo => (en_cells (ext_range s ry hby)).1
      have b1 := fun s : Ext wo => (en_cells (ext_range s ry hby)).2.1
      have b2 := fun s : Ext wo => (en_cells (ext_range s ry hby)).2.2.1
      have b3 := fun s : Ext wo => (en_cells (ext_range s ry hby)).2.2.2
      clear rx ry
      by_cases hrs : r = s
      · have heq := fun w => run_eqEn r s true (decide_eq_true hrs) w
        have HS2 := Lib.hid (HST.out hrs)
        clear hrs hkx hky
        go_wp2
        refine wp_region_ext (by kernel_rfl) (by kernel_rfl) ?_
        repeat (go_big_quiet_step (fail))
        refine wpQuiet_nil ?_
        rintro _ ⟨s, rfl⟩
        go_wp2
        go_roundw
        case rel => exact ⟨k + 1, by omega, by go_num, HS2, hW.trans (s.h.mono hW.size)⟩
        case measure => simp [intOf]; omega
      · have heq := fun w => run_eqEn r s false (decide_eq_false hrs) w
        have HF := Lib.hid (HNE.out hrs)
        clear hrs hkx hky
        go_wp2
        refine wp_region_ext (by kernel_rfl) (by kernel_rfl) ?_
        repeat (go_big_quiet_step (fail))
        refine wpQuiet_nil ?_
        rintro _ ⟨s, rfl⟩
        go_wp2
        go_ret
        exact ⟨by rw [HF.out]; rfl, hW.trans (s.h.mono hW.size)⟩
    · obtain rfl : k = n := by omega
      have HT : Hid (v = true) := Lib.hid (by
        rw [← HV.out]
        exact decide_eq_true (List.ext_getElem (by rw [HN.out, HM.out]) fun i h1 h2 => HE.out i h1 h2 (by rw [← HN.out]; exact h1)))
      go_wp2
      go_ret
      exact ⟨by rw [HT.out]; rfl, hW⟩
set_option maxHeartbeats 400000 in
theorem same_b (A B : Option Addr) (xs ys : List Pl.En) (c d n m : Nat) (hn : xs.length = n) (hm : ys.length = m) (hn4 : n ≤ 1000) (hm4 : m ≤ 1000) (v : Bool) (hv : decide (xs = ys) = v) (w : World) (hA : Rows enL 4 w A xs) (hB : Rows enL 4 w B ys) :
    Calls Try.prog 17 #[.slice A n c, .slice B m d] w fun e w' => e = .returned (.bool v) ∧ Below w.heap.size w w' := by
  have HC := Lib.hid (dSame_b A B xs ys c d n m hn hm hn4 hm4 v hv w hA hB)
  clear hn hm hv hA hB
  go_enter Try.func17, Try.ntmps17
  go_wp2_with fail
  refine HC.out.mono ?_
  rintro e w1 ⟨rfl, hb⟩
  go_wp2
  go_ret
  exact ⟨rfl, hb⟩
set_option maxRecDepth 100000 in
theorem run_eqEnN (k : Nat) (r : Pl.En) (w : World) : (Op.equalIn (k + 1 + 1) 24 (.agg (enA r)) (.agg (enA r))).run Try.prog w = .ok true w := by
  have u3 := Try.underlying3
  have a3 := Try.isAgg3
  have q3 := Try.sizeOf3
  go_simp
set_option maxRecDepth 100000 in
theorem run_eqDf (d : Pl.Df) (w : World) : (Op.equalIn 10000 61 (.agg (dfA d)) (.agg (dfA d))).run Try.prog w = .ok true w := by
  have u3 := Try.underlying3
  have a3 := Try.isAgg3
  have q3 := Try.sizeOf3
  have a24 := Try.isAgg24
  have q24 := Try.sizeOf24
  have ht : Try.prog.underlying 61 = some (.struct (Try.prog.fieldsOf 61)) := by kernel_rfl
  have hp : Try.prog.stoodInHeld 61 = false := by kernel_rfl
  have hf := ht.symm.trans Try.underlying61
  simp only [Option.some.injEq, TypeDesc.struct.injEq] at hf
  rw [show (10000 : Nat) = 9997 + 1 + 1 + 1 from rfl, run_equalIn_agg _ _ _ _ _ ht hp, hf]
  have h5 := fun r w => run_eqEnN 9997 r w
  clear hf ht hp
  simp only [Op.eqFields]
  go_simp
/-- the cells of a difference -/
structure DfC (W : World) (b o : Nat) (d : Pl.Df) : Prop where
  c0 : W.cell? ⟨b, o, none⟩ = some (.int .i64 d.k)
  c1 : W.cell? ⟨b, o + 1, none⟩ = some (.int .i64 d.m.k)
  c2 : W.cell? ⟨b, o + 2, none⟩ = some (.int .i64 d.m.r)
  c3 : W.cell? ⟨b, o + 3, none⟩ = some (.int .i64 d.m.d)
  c4 : W.cell? ⟨b, o + 4, none⟩ = some (.int .i64 d.m.c)
  c5 : W.cell? ⟨b, o + 5, none⟩ = some (.int .i64 d.t.k)
  c6 : W.cell? ⟨b, o + 6, none⟩ = some (.int .i64 d.t.r)
  c7 : W.cell? ⟨b, o + 7, none⟩ = some (.int .i64 d.t.d)
  c8 : W.cell? ⟨b, o + 8, none⟩ = some (.int .i64 d.t.c)
theorem df_cells {W : World} {b o : Nat} {d : Pl.Df} (h : W.rangeAt b o (dfL d)) : DfC W b o d := ⟨h 0 _ rfl, h 1 _ rfl, h 2 _ rfl, h 3 _ rfl, h 4 _ rfl, h 5 _ rfl, h 6 _ rfl, h 7 _ rfl, h 8 _ rfl⟩
end Go.Proofs.Ytalfffkcmddakaa
