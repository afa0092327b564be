/- areApart, Apart, Length, of the program and of the document; BarrelApart. -/
import Derived.Test.YtlfbfdhdkccaeaaD1
import Derived.Test.YtlfbfdhdkccaeaaN1
namespace Go.Proofs.Ytlfbfdhdkccaeaa
open Go.RowKit Go.Shelf Go.Sort

set_option maxRecDepth 100000 in
set_option maxHeartbeats 4000000 in
theorem areApart_b (A : Option Addr) (l : List Pl.Bt) (c n : Nat) (hn : l.length = n) (hn4 : n ≤ 40) (AX : Option Addr) (xs : List Int) (cx m : Nat) (hm : xs.length = m) (hm4 : m ≤ 1000) (hmc : m ≤ cx) (hcx : cx ≤ maxLen) (hch : Pl.cho n xs = true) (v : Bool) (hv : Pl.apB l xs = v) (w : World) (hI : Bts w A l) (hX : Rows inL 1 w AX xs) :
    Calls Try.prog 59 #[.slice A n c, .slice AX m cx] w fun e w' => e = .returned (.bool v) ∧ Below w.heap.size w w' := by
  have HI := Lib.hid hI
  have HX := Lib.hid hX
  have HN := Lib.hid hn
  have HM := Lib.hid hm
  have HCH := Lib.hid hch
  have HV1 : Hid (Pl.apk l xs m → v = true) := Lib.hid (fun h => by rw [← hv]; exact decide_eq_true (by rw [hm]; exact h))
  have HV2 : Hid (∀ i j, i < m → j < i → Pl.apt (Pl.bx l xs i) (Pl.bx l xs j) = false → v = false) := Lib.hid (fun i j hi hj h => by rw [← hv]; exact Pl.apB_no (by rw [hm]; exact hi) hj h)
  have hcx' : cx ≤ 9223372036854775807 := hcx
  clear hI hX hn hm hch hv hcx
  go_enter Try.func59, Try.ntmps59
  go_wp2
  go_loopw [5, 6, 8, 11] (fun _ _ _ i wr => ∃ k : Nat, k ≤ m ∧ i = .int .i64 k ∧ Hid (Pl.apk l xs k) ∧ Below w.heap.size w wr) (fun _ _ _ i _ => m - (intOf i).toNat)
  case atStart => exact ⟨0, Nat.zero_le _, rfl, Lib.hid (fun i hi => absurd hi (Nat.not_lt_zero _)), Below.refl _ _⟩
  case round =>
    obtain ⟨k, hk, rfl, hap, hW⟩ := hrel
    obtain ⟨wo, rfl⟩ : ∃ wo, wo = wr := ⟨_, rfl⟩
    by_cases hlt : k < m
    · have hltI : (k : Int) < (m : Int) := by omega
      have hkx : k < xs.length := by rw [HM.out]; exact hlt
      obtain ⟨bx, ox, rfl, hbx, hcX⟩ := HX.out.open (by omega)
      have HCX := Lib.hid (fun W (hB : Below w.heap.size w W) i (hi : i < xs.length) => row_cell (mk := Value.int .i64) hbx hcX hB hi)
      have q0 := HCX.out wo hW k hkx
      obtain ⟨p, hp, hpn⟩ := Pl.idx_lt HCH.out hkx
      have HP := Lib.hid (Pl.bx_eq (l := l) hkx hp)
      rw [hp] at q0
      have hkcI : (k : Int) ≤ (cx : Int) := by omega
      have hkc : k ≤ cx := by omega
      have hpI : (p : Int) < (n : Int) := by omega
      obtain ⟨bz, oz, rfl, hbz, hcz⟩ := bts_open HI.out (by rw [HN.out]; omega)
      have HCZ := Lib.hid (fun W (hB : Below w.heap.size w W) i (hi : i < l.length) => bts_cells hbz hcz hB hi)
      clear hcX hcz hp
      go_wp2
      go_loopw [8, 20] (fun _ i wr => ∃ j : Nat, j ≤ k ∧ i = .int .i64 j ∧ Hid (∀ j', j' < j → Pl.apt (Pl.bx l xs k) (Pl.bx l xs j') = true) ∧ Below w.heap.size w wr) (fun _ i _ => k - (intOf i).toNat)
      case atStart => exact ⟨0, Nat.zero_le _, rfl, Lib.hid (fun j hj => absurd hj (Nat.not_lt_zero _)), hW⟩
      case round =>
        obtain ⟨j, hj, rfl, hapj, hW2⟩ := hrel
        obtain ⟨w2, rfl⟩ : ∃ w2, w2 = wr := ⟨_, rfl⟩
        by_cases hlt2 : j < k
        · have hltI2 : (j : Int) < (k : Int) := by omega
          have hjx : j < xs.length := by omega
          have q1 := HCX.out w2 hW2 j hjx
          obtain ⟨q, hq, hqn⟩ := Pl.idx_lt HCH.out hjx
          have HQ := Lib.hid (Pl.bx_eq (l := l) hjx hq)
          rw [hq] at q1
          have hqI : (q : Int) < (n : Int) := by omega
          have r1 := HCZ.out w2 hW2 p (by rw [HN.out]; exact hpn)
          have r2 := HCZ.out w2 hW2 q (by rw [HN.out]; exact hqn)
          have hbz2 : bz < w2.heap.size := Nat.lt_of_lt_of_le hbz hW2.size
          have HNO : Hid (Pl.apt (Pl.bx l xs k) (Pl.bx l xs j) = false → v = false) := Lib.hid (HV2.out k j hlt hlt2)
          have HYES : Hid (Pl.apt (Pl.bx l xs k) (Pl.bx l xs j) = true → ∀ j', j' < j + 1 → Pl.apt (Pl.bx l xs k) (Pl.bx l xs j') = true) := Lib.hid (fun h j' hj' => by
            rcases Nat.lt_succ_iff_lt_or_eq.1 hj' with h' | rfl
            · exact hapj.out j' h'
            · exact h)
          rw [HP.out, HQ.out] at HNO
          rw [show Pl.bx l xs j = Pl.at' l q from HQ.out] at HYES
          have HYES2 : Hid (Pl.apt (Pl.at' l p) (Pl.at' l q) = true → ∀ j', j' < j + 1 → Pl.apt (Pl.bx l xs k) (Pl.bx l xs j') = true) := Lib.hid (fun h => HYES.out (by rw [HP.out]; exact h))
          clear HYES hq hapj
          generalize Pl.at' l p = E at *
          generalize Pl.at' l q = F at *
          obtain ⟨x1, h1⟩ : ∃ x, Pl.may E F = x := ⟨_, rfl⟩
          obtain ⟨x2, h2⟩ : ∃ x, Pl.may F E = x := ⟨_, rfl⟩
          unfold Pl.apt at HNO HYES2
          rw [h1, h2] at HNO
          have HYES3 : Hid ((!x1 && !x2) = true → ∀ j', j' < j + 1 → Pl.apt (Pl.bx l xs k) (Pl.bx l xs j') = true) := Lib.hid (fun h => by have := HYES2.out (by rw [h1, h2]; exact h); exact this)
          have H1 := Lib.hid h1
          have H2 := Lib.hid h2
          have y10 := fun s : Ext w2 => (bt_cells (ext_range s r1 hbz2)).1
          have y11 := fun s : Ext w2 => (bt_cells (ext_range s r1 hbz2)).2.1
          have y12 := fun s : Ext w2 => (bt_cells (ext_range s r1 hbz2)).2.2.1
          have y13 := fun s : Ext w2 => (bt_cells (ext_range s r1 hbz2)).2.2.2.1
          have y14 := fun s : Ext w2 => (bt_cells (ext_range s r1 hbz2)).2.2.2.2.1
          have y15 := fun s : Ext w2 => (bt_cells (ext_range s r1 hbz2)).2.2.2.2.2.1
          have y16 := fun s : Ext w2 => (bt_cells (ext_range s r1 hbz2)).2.2.2.2.2.2
          have y20 := fun s : Ext w2 => (bt_cells (ext_range s r2 hbz2)).1
          have y21 := fun s : Ext w2 => (bt_cells (ext_range s r2 hbz2)).2.1
          have y22 := fun s : Ext w2 => (bt_cells (ext_range s r2 hbz2)).2.2.1
          have y23 := fun s : Ext w2 => (bt_cells (ext_range s r2 hbz2)).2.2.2.1
          have y24 := fun s : Ext w2 => (bt_cells (ext_range s r2 hbz2)).2.2.2.2.1
          have y25 := fun s : Ext w2 => (bt_cells (ext_range s r2 hbz2)).2.2.2.2.2.1
          have y26 := fun s : Ext w2 => (bt_cells (ext_range s r2 hbz2)).2.2.2.2.2.2
          clear h1 h2 HYES2 r1 r2
          cases x1 <;> cases x2
          · have HF := Lib.hid (HYES3.out rfl)
            go_wp2
            refine wp_region_ext (by kernel_rfl) (by kernel_rfl) ?_
            repeat (go_big_quiet_step ((go_at_call 50; refine calls_ext (may_b _ _ _ (by first | exact H1.out | exact H2.out) _))))
            refine wpQuiet_nil ?_
            rintro _ ⟨s, rfl⟩
            go_wp2
            go_roundw
            case rel => exact ⟨j + 1, by omega, by go_num, HF, hW2.trans (s.h.mono hW2.size)⟩
            case measure => simp [intOf]; omega
          all_goals
            have HF : Hid (v = false) := Lib.hid (HNO.out rfl)
            go_wp2
            refine wp_region_ext (by kernel_rfl) (by kernel_rfl) ?_
            repeat (go_big_quiet_step ((go_at_call 50; refine calls_ext (may_b _ _ _ (by first | exact H1.out | exact H2.out) _))))
            refine wpQuiet_nil ?_
            rintro _ ⟨s, rfl⟩
            go_wp2
            go_ret
            exact ⟨by rw [HF.out]; rfl, hW2.trans (s.h.mono hW2.size)⟩
        · obtain rfl : j = k := by omega
          have HA : Hid (Pl.apk l xs (j + 1)) := Lib.hid (fun i hi j' hj' => by
            rcases Nat.lt_succ_iff_lt_or_eq.1 hi with h | rfl
            · exact hap.out i h j' hj'
            · exact hapj.out j' hj')
          go_wp2
          go_roundw
          case rel => exact ⟨j + 1, by omega, by go_num, HA, hW2⟩
          case measure => simp [intOf]; omega
    · obtain rfl : k = m := by omega
      have HT : Hid (v = true) := Lib.hid (HV1.out hap.out)
      go_wp2
      go_ret
      exact ⟨by rw [HT.out]; rfl, hW⟩
end Go.Proofs.Ytlfbfdhdkccaeaa
