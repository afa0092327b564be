/- isDirty, and its closure; the closure for empty rows; slices.Contains of truth values. -/
import Derived.Test.YtlfbfdhdkccaeaaGreatD2
import Derived.Test.YtlfbfdhdkccaeaaGreatK1
import Derived.Test.YtlfbfdhdkccaeaaGreatPZ
namespace Go.Proofs.YtlfbfdhdkccaeaaGreat
open Go.RowKit Go.Shelf Go.Sort

set_option maxRecDepth 100000 in
set_option maxHeartbeats 4000000 in
theorem dirty_b (A : Option Addr) (l : List Pl.Bt) (c n : Nat) (hn : l.length = n) (hn4 : n ≤ 40) (AX : Option Addr) (xs : List Int) (cx m : Nat) (hm : xs.length = m) (hmc : m ≤ cx) (hcx : cx ≤ maxLen) (hi : ∀ x, x ∈ xs → 0 ≤ x ∧ x < (n : Int)) (v : Bool) (hv : Pl.dty l xs = v) (w : World) (hI : Bts w A l) (hX : Rows inL 1 w AX xs) :
    Calls Tryz.prog 51 #[.slice A n c, .slice AX m cx] w fun e w' => e = .returned (.bool v) ∧ Below w.heap.size w w' := by
  have HI := Lib.hid hI
  have HX := Lib.hid hX
  have HN := Lib.hid hn
  have HM := Lib.hid hm
  have HIX : Hid (∀ (i : Nat) (h : i < xs.length), ∃ q : Nat, xs[i] = q ∧ q < n) := Lib.hid (fun i h => by
    obtain ⟨h0, h1⟩ := hi _ (List.getElem_mem h)
    exact ⟨xs[i].toNat, by omega, by omega⟩)
  have HV1 : Hid ((∀ k, k < m → 0 < k → Pl.may (Pl.bx l xs (k - 1)) (Pl.bx l xs k) = true) → v = false) := Lib.hid (fun h => by rw [← hv]; exact Pl.dty_no (by rw [hm]; exact h))
  have HV2 : Hid (∀ k, k < m → 0 < k → Pl.may (Pl.bx l xs (k - 1)) (Pl.bx l xs k) = false → v = true) := Lib.hid (fun k hk h0 h => by rw [← hv]; exact Pl.dty_yes (by rw [hm]; exact hk) h0 h)
  have hm63' : m ≤ 9223372036854775807 := Nat.le_trans hmc hcx
  clear hI hX hn hm hv hi hmc hcx
  go_enter Tryz.func51, Tryz.ntmps51
  go_wp2
  go_loopw [5, 6, 9] (fun _ _ i wr => ∃ k : Nat, k ≤ m ∧ i = .int .i64 k ∧ Hid (∀ j, j < k → 0 < j → Pl.may (Pl.bx l xs (j - 1)) (Pl.bx l xs j) = true) ∧ Below w.heap.size w wr) (fun _ _ i _ => m - (intOf i).toNat)
  case atStart => exact ⟨0, Nat.zero_le _, rfl, Lib.hid (fun i hi => absurd hi (Nat.not_lt_zero _)), Below.refl _ _⟩
  case round =>
    obtain ⟨k, hk, rfl, hap, hW⟩ := hrel
    obtain ⟨wo, rfl⟩ : ∃ wo, wo = wr := ⟨_, rfl⟩
    by_cases hlt : k < m
    · have hltI : (k : Int) < (m : Int) := by omega
      have hkx : k < xs.length := by rw [HM.out]; exact hlt
      obtain ⟨bx, ox, rfl, hbx, hcX⟩ := HX.out.open (by omega)
      have HCX := Lib.hid (fun W (hB : Below w.heap.size w W) i (hi : i < xs.length) => row_cell (mk := Value.int .i64) hbx hcX hB hi)
      have q0 := HCX.out wo hW k hkx
      obtain ⟨p, hp, hpn⟩ := HIX.out k hkx
      have HP := Lib.hid (Pl.bx_eq (l := l) hkx hp)
      rw [hp] at q0
      have hpI : (p : Int) < (n : Int) := by omega
      obtain ⟨bz, oz, rfl, hbz, hcz⟩ := bts_open HI.out (by rw [HN.out]; omega)
      have HCZ := Lib.hid (fun W (hB : Below w.heap.size w W) i (hi : i < l.length) => bts_cells hbz hcz hB hi)
      clear hcX hcz hp
      have hbz2 : bz < wo.heap.size := Nat.lt_of_lt_of_le hbz hW.size
      have hbx2 : bx < wo.heap.size := Nat.lt_of_lt_of_le hbx hW.size
      have r1 := HCZ.out wo hW p (by rw [HN.out]; exact hpn)
      by_cases h0 : k = 0
      · subst h0
        have HF : Hid (∀ j, j < 0 + 1 → 0 < j → Pl.may (Pl.bx l xs (j - 1)) (Pl.bx l xs j) = true) := Lib.hid (fun j hj h0 => by omega)
        rw [Nat.add_zero] at q0
        clear r1 hap
        go_wp2
        refine wp_region_ext (by kernel_rfl) (by kernel_rfl) ?_
        repeat (go_big_quiet_step (fail))
        refine wpQuiet_nil ?_
        rintro _ ⟨s, rfl⟩
        go_wp2
        go_roundw
        case rel => exact ⟨0 + 1, by omega, by go_num, HF, hW.trans (s.h.mono hW.size)⟩
        case measure => simp [intOf]; omega
      · obtain ⟨j, rfl⟩ : ∃ j, k = j + 1 := ⟨k - 1, by omega⟩
        have hjx : j < xs.length := by omega
        have q1' := HCX.out wo hW j hjx
        obtain ⟨q, hq, hqn⟩ := HIX.out j hjx
        have HQ := Lib.hid (Pl.bx_eq (l := l) hjx hq)
        rw [hq] at q1'
        have q1 := fun s : Ext wo => s.cell (p := ⟨bx, ox + j, none⟩) q1'
        have hqI : (q : Int) < (n : Int) := by omega
        have r2 := HCZ.out wo hW q (by rw [HN.out]; exact hqn)
        have HNO := Lib.hid (HV2.out (j + 1) hlt (by omega))
        have HYES : Hid (Pl.may (Pl.bx l xs j) (Pl.bx l xs (j + 1)) = true → ∀ i, i < j + 1 + 1 → 0 < i → Pl.may (Pl.bx l xs (i - 1)) (Pl.bx l xs i) = true) := Lib.hid (fun h i hi h0 => by
          rcases Nat.lt_succ_iff_lt_or_eq.1 hi with h' | rfl
          · exact hap.out i h' h0
          · exact h)
        rw [show j + 1 - 1 = j from rfl, HP.out, HQ.out] at HNO
        rw [HP.out, HQ.out] at HYES
        clear hq hap q1'
        generalize Pl.at' l p = E at *
        generalize Pl.at' l q = F at *
        obtain ⟨x1, h1⟩ : ∃ x, Pl.may F E = x := ⟨_, rfl⟩
        rw [h1] at HNO HYES
        have H1 := Lib.hid h1
        have k1 : IntKind.i64.wrap (((j + 1 : Nat) : Int) - 1) = (j : Int) := by rw [show ((j + 1 : Nat) : Int) - 1 = (j : Int) from by omega]; exact IntWalk.i64_in _ (by omega)
        have k2 : ((j + 1 : Nat) : Int) - 1 = (j : Int) := by omega
        have k3 : (j : Int) < (m : Int) := by omega
        have k4 : (0 : Int) < ((j + 1 : Nat) : Int) := by omega
        have y10 := fun s : Ext wo => (bt_cells (ext_range s r1 hbz2)).1
        have y11 := fun s : Ext wo => (bt_cells (ext_range s r1 hbz2)).2.1
        have y12 := fun s : Ext wo => (bt_cells (ext_range s r1 hbz2)).2.2.1
        have y13 := fun s : Ext wo => (bt_cells (ext_range s r1 hbz2)).2.2.2.1
        have y14 := fun s : Ext wo => (bt_cells (ext_range s r1 hbz2)).2.2.2.2.1
        have y15 := fun s : Ext wo => (bt_cells (ext_range s r1 hbz2)).2.2.2.2.2.1
        have y16 := fun s : Ext wo => (bt_cells (ext_range s r1 hbz2)).2.2.2.2.2.2
        have y20 := fun s : Ext wo => (bt_cells (ext_range s r2 hbz2)).1
        have y21 := fun s : Ext wo => (bt_cells (ext_range s r2 hbz2)).2.1
        have y22 := fun s : Ext wo => (bt_cells (ext_range s r2 hbz2)).2.2.1
        have y23 := fun s : Ext wo => (bt_cells (ext_range s r2 hbz2)).2.2.2.1
        have y24 := fun s : Ext wo => (bt_cells (ext_range s r2 hbz2)).2.2.2.2.1
        have y25 := fun s : Ext wo => (bt_cells (ext_range s r2 hbz2)).2.2.2.2.2.1
        have y26 := fun s : Ext wo => (bt_cells (ext_range s r2 hbz2)).2.2.2.2.2.2
        clear h1 r1 r2
        cases x1
        · have HF : Hid (v = true) := Lib.hid (HNO.out rfl)
          go_wp2
          refine wp_region_ext (by kernel_rfl) (by kernel_rfl) ?_
          repeat (go_big_quiet_step ((go_at_call 68; refine calls_ext (may_b _ _ _ H1.out _))))
          refine wpQuiet_nil ?_
          rintro _ ⟨s, rfl⟩
          go_wp2
          go_ret
          exact ⟨by rw [HF.out]; rfl, hW.trans (s.h.mono hW.size)⟩
        · have HF := Lib.hid (HYES.out rfl)
          go_wp2
          refine wp_region_ext (by kernel_rfl) (by kernel_rfl) ?_
          repeat (go_big_quiet_step ((go_at_call 68; refine calls_ext (may_b _ _ _ H1.out _))))
          refine wpQuiet_nil ?_
          rintro _ ⟨s, rfl⟩
          go_wp2
          go_roundw
          case rel => exact ⟨j + 1 + 1, by omega, by go_num, HF, hW.trans (s.h.mono hW.size)⟩
          case measure => simp [intOf]; omega
    · obtain rfl : k = m := by omega
      have HT : Hid (v = false) := Lib.hid (HV1.out hap.out)
      go_wp2
      go_ret
      exact ⟨by rw [HT.out]; rfl, hW⟩

set_option maxRecDepth 100000 in
theorem cl4_b (A : Option Addr) (l : List Pl.Bt) (c n : Nat) (hn : l.length = n) (hn4 : n ≤ 40) (AX : Option Addr) (xs : List Int) (cx m : Nat) (hm : xs.length = m) (hmc : m ≤ cx) (hcx : cx ≤ maxLen) (hi : ∀ x, x ∈ xs → 0 ≤ x ∧ x < (n : Int)) (bl : Nat) (w : World) (hI : Bts w A l) (hX : Rows inL 1 w AX xs) (hl : w.cell? ⟨bl, 0, none⟩ = some (.slice A n c)) :
    Calls Tryz.prog 50 #[.slice AX m cx, .pointer (some ⟨bl, 0, none⟩)] w fun e w' => e = .returned (.bool (Pl.dty l xs)) ∧ Below w.heap.size w w' := by
  have HC := Lib.hid (dirty_b A l c n hn hn4 AX xs cx m hm hmc hcx hi _ rfl w hI hX)
  clear hX hm hi hI hn
  go_enter Tryz.func50, Tryz.ntmps50
  go_wp2_with fail
  refine HC.out.mono ?_
  rintro e w1 ⟨rfl, hb1⟩
  go_wp2
  go_ret
  exact ⟨rfl, hb1⟩
end Go.Proofs.YtlfbfdhdkccaeaaGreat

