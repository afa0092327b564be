/- Check of the program; long; BarrelChecks. -/
import Derived.Test.YtlfbfdhdkccaeaaK6
import Derived.Test.YtlfbfdhdkccaeaaK7
import Derived.Test.YtlfbfdhdkccaeaaN1
namespace Go.Proofs.Ytlfbfdhdkccaeaa
open Go.RowKit Go.Shelf Go.Sort

set_option maxRecDepth 100000 in
theorem Check_any (A : Option Addr) (l : List Pl.Bt) (c n : Nat) (hn : l.length = n) (AR : Option Addr) (rows : List (List Int)) (cr m : Nat) (hm : rows.length = m) (hm6 : m ≤ 1000) (w : World) (hI : Bts w A l) (hR : RR inL 1 w AR rows) :
    Calls Try.prog 22 #[.slice A n c, .slice AR m cr] w fun e w' => e = .returned (.int .i64 (Pl.ckE l rows)) ∧ Below w.heap.size w w' := by
  have HC := Lib.hid (valid_any A l c w hI)
  rw [hn] at HC
  obtain ⟨x, hx⟩ : ∃ x, Pl.vs l = x := ⟨_, rfl⟩
  rw [hx] at HC
  cases x
  · have HV : Hid (Pl.ckE l rows = 60) := Lib.hid (Pl.ckE_no hx)
    generalize Pl.ckE l rows = V at *
    clear hI hR hn hm hx
    go_enter Try.func22, Try.ntmps22
    go_wp2_with fail
    refine HC.out.mono ?_
    rintro e w1 ⟨rfl, hb1⟩
    go_wp2
    go_ret
    exact ⟨by rw [HV.out]; rfl, hb1⟩
  · have hn4 : n ≤ 40 := hn ▸ (Pl.ok_of hx).len
    have HK : Hid (∀ W, Below w.heap.size w W → Calls Try.prog 53 #[.slice A n c, .slice AR m cr] W fun e w' => e = .returned (.int .i64 (Pl.ckR l rows)) ∧ Below W.heap.size W w') := Lib.hid (fun W hB => checkRows_b A l c n hn hn4 AR rows cr m hm hm6 W (hI.below hB) (hR.below hB))
    rw [Pl.ckE_ok hx]
    generalize Pl.ckR l rows = V at *
    clear hI hR hn hm hx
    go_enter Try.func22, Try.ntmps22
    go_wp2_with fail
    refine HC.out.mono ?_
    rintro e w1 ⟨rfl, hb1⟩
    go_wp2_with fail
    refine (HK.out w1 hb1).mono ?_
    rintro e w2 ⟨rfl, hb2⟩
    have hB := hb1.trans (hb2.mono hb1.size)
    go_wp2
    go_ret
    exact ⟨rfl, hB⟩

/-- more than 60 rows, or one of more than 60 elements -/
def Pl.lng (rows : List (List Int)) : Bool := rows.any (fun r => decide (60 < r.length)) || decide (60 < rows.length)
theorem Pl.lng_no {rows : List (List Int)} (h : Pl.lng rows = false) : rows.length ≤ 60 ∧ ∀ k, k < rows.length → (rows.getD k []).length ≤ 60 := by
  unfold Pl.lng at h
  rw [Bool.or_eq_false_iff] at h
  refine ⟨by have := of_decide_eq_false h.2; omega, fun k hk => ?_⟩
  rcases Nat.lt_or_ge 60 (rows.getD k []).length with h1 | h1
  · rw [Pl.any_one hk (decide_eq_true h1)] at h; exact absurd h.1 (by simp)
  · exact h1
set_option maxRecDepth 100000 in
set_option maxHeartbeats 1000000 in
theorem long_b (A : Option Addr) (rows : List (List Int)) (c m : Nat) (hm : rows.length = m) (hmc : m ≤ c) (hcm : c ≤ maxLen) (v : Bool) (hv : Pl.lng rows = v) (w : World) (hR : RR inL 1 w A rows) :
    Calls Try.prog 21 #[.slice A m c] w fun e w' => e = .returned (.bool v) ∧ w' = w := by
  have HV1 : Hid (∀ k, k < m → 60 < (rows.getD k []).length → v = true) := Lib.hid (fun k hk h => by
    rw [← hv]; unfold Pl.lng; rw [Pl.any_one (by rw [hm]; exact hk) (decide_eq_true h)]; rfl)
  have HV2 : Hid ((∀ k, k < m → (rows.getD k []).length ≤ 60) → v = decide (60 < m)) := Lib.hid (fun h => by
    rw [← hv]; unfold Pl.lng
    rw [Pl.any_all (p := fun r => decide (60 < r.length)) (fun i hi => decide_eq_false (by have := h i (by rw [← hm]; exact hi); omega)), hm]; rfl)
  have HGR : Hid (∀ k, k < m → ∃ b off, A = some ⟨b, off, none⟩ ∧ b < w.heap.size ∧ ∃ A' c', w.cell? ⟨b, off + k, none⟩ = some (.slice A' (rows.getD k []).length c') ∧ Rows inL 1 w A' (rows.getD k []) ∧ (rows.getD k []).length ≤ c' ∧ c' ≤ maxLen) := Lib.hid (fun k hk => rr_row hR (by rw [hm]; exact hk))
  have hm63 : m ≤ 9223372036854775807 := Nat.le_trans hmc hcm
  clear hR hm hmc hcm hv
  go_enter Try.func21, Try.ntmps21
  go_wp2
  go_loop [3] (fun i => ∃ k : Nat, k ≤ m ∧ i = .int .i64 k ∧ Hid (∀ j, j < k → (rows.getD j []).length ≤ 60)) (fun i => m - (intOf i).toNat)
  case atStart => exact ⟨0, Nat.zero_le _, rfl, Lib.hid (fun j hj => absurd hj (Nat.not_lt_zero _))⟩
  case round =>
    obtain ⟨k, hk, rfl, hno⟩ := hrel
    by_cases hlt : k < m
    · have hltI : (k : Int) < (m : Int) := by omega
      obtain ⟨b, off, rfl, hb, A', c', h1, h2, h3, h4⟩ := HGR.out k hlt
      obtain ⟨u, hu⟩ : ∃ u, (rows.getD k []).length = u := ⟨_, rfl⟩
      have HU := Lib.hid hu
      rw [hu] at h1
      clear h2 h3 h4 hu
      by_cases h6 : (60 : Int) < (u : Int)
      · have HF := Lib.hid (HV1.out k hlt (by rw [HU.out]; omega))
        go_wp2
        go_ret
        exact ⟨by rw [HF.out]; rfl, rfl⟩
      · go_wp2
        go_round
        case rel => exact ⟨k + 1, by omega, by go_num, Lib.hid (fun i hi => by
          rcases Nat.lt_succ_iff_lt_or_eq.1 hi with h' | rfl
          · exact hno.out i h'
          · rw [HU.out]; omega)⟩
        case measure => simp [intOf]; omega
    · obtain rfl : m = k := by omega
      by_cases h6 : (60 : Int) < (m : Int)
      · have HF : Hid (v = true) := Lib.hid ((HV2.out hno.out).trans (decide_eq_true (by omega)))
        go_wp2
        go_ret
        exact ⟨by rw [HF.out]; rfl, rfl⟩
      · have HF : Hid (v = false) := Lib.hid ((HV2.out hno.out).trans (decide_eq_false (by omega)))
        go_wp2
        go_ret
        exact ⟨by rw [HF.out]; rfl, rfl⟩

set_option maxRecDepth 100000 in
set_option maxHeartbeats 4000000 in
theorem law_checks (A : Option Addr) (l : List Pl.Bt) (c : Nat) (AR : Option Addr) (rows : List (List Int)) (cr : Nat) (hmc : rows.length ≤ cr) (hcm : cr ≤ maxLen) (w : World) (hI : Bts w A l) (hR : RR inL 1 w AR rows) :
    Calls Try.prog 4 #[.slice A l.length c, .slice AR rows.length cr] w fun e w' => e = .returned (.bool true) ∧ Below w.heap.size w w' := by
  have HI := Lib.hid hI
  have HR := Lib.hid hR
  have HS := Lib.hid sane_any
  obtain ⟨n, hn⟩ : ∃ n, l.length = n := ⟨_, rfl⟩
  obtain ⟨m, hm⟩ : ∃ m, rows.length = m := ⟨_, rfl⟩
  obtain ⟨v, hv⟩ : ∃ v, Pl.lng rows = v := ⟨_, rfl⟩
  have HL := Lib.hid (fun W hR => long_b AR rows cr m hm (by omega) hcm v hv W hR)
  have HLN : Hid (v = false → m ≤ 60) := Lib.hid (fun h => by rw [← hm]; exact (Pl.lng_no (hv.trans h)).1)
  have H1 := Lib.hid (fun (h : m ≤ 1000) W hI hR => Check_any A l c n hn AR rows cr m hm h W hI hR)
  have H2 := Lib.hid (fun (h : m ≤ 1000) W hI hR => rCheck_any A l c n hn AR rows cr m hm h W hI hR)
  rw [hn, hm]
  generalize Pl.ckE l rows = V at *
  clear hI hR hn hm hmc hcm hv
  by_cases hw : (50 : Int) < (n : Int)
  · have HW := Lib.hid (wide_b A n c 50 true (by simp [hw]))
    go_enter Try.func4, Try.ntmps4
    go_wp2_with fail
    refine (HW.out _).mono ?_
    rintro e w3 ⟨rfl, rfl⟩
    go_wp2_with fail
    refine (HS.out _).mono ?_
    rintro e w4 ⟨rfl, hb⟩
    go_wp2
    go_ret
    exact ⟨rfl, hb⟩
  have HW := Lib.hid (wide_b A n c 50 false (by simp [hw]))
  clear hw
  go_enter Try.func4, Try.ntmps4
  go_wp2_with fail
  refine (HW.out _).mono ?_
  rintro e w3 ⟨rfl, hw3⟩
  obtain rfl : w = w3 := hw3.symm
  go_wp2_with fail
  refine (HL.out _ HR.out).mono ?_
  rintro e w3 ⟨rfl, hw3⟩
  obtain rfl : w = w3 := hw3.symm
  cases v
  rotate_left
  · go_wp2_with fail
    refine (HS.out _).mono ?_
    rintro e w4 ⟨rfl, hb⟩
    go_wp2
    go_ret
    exact ⟨rfl, hb⟩
  have HM : Hid (m ≤ 1000) := Lib.hid (by have := HLN.out rfl; omega)
  go_wp2_with fail
  refine (H1.out HM.out _ HI.out HR.out).mono ?_
  rintro e w1 ⟨rfl, hb1⟩
  have HI1 := Lib.hid (HI.out.below hb1)
  have HR1 := Lib.hid (HR.out.below hb1)
  go_wp2_with fail
  refine (H2.out HM.out _ HI1.out HR1.out).mono ?_
  rintro e w2 ⟨rfl, hb2⟩
  have hB2 := hb1.trans (hb2.mono hb1.size)
  clear hb2 hb1 HI1 HR1
  go_wp2_with fail
  refine (HS.out _).mono ?_
  rintro e w4 ⟨rfl, hb⟩
  have hB4 := hB2.trans (hb.mono hB2.size)
  go_wp2
  go_ret
  exact ⟨rfl, hB4⟩
end Go.Proofs.Ytlfbfdhdkccaeaa
