/- Runs that came in: Crowd, crowd, validRuns. -/
import Derived.Test.YtlfbfdhdkccaeaaGreatW1
import Derived.Test.YtlfbfdhdkccaeaaGreatF3
import Derived.Test.YtlfbfdhdkccaeaaGreatOpen
import Derived.Test.YtlfbfdhdkccaeaaGreatPZ
namespace Go.Proofs.YtlfbfdhdkccaeaaGreat
open Go.RowKit Go.Shelf

theorem Pl.anyR_all {p : List Pl.Rn → Bool} {rows : List (List Pl.Rn)} (h : ∀ i, i < rows.length → p (rows.getD i []) = false) : rows.any p = false := by
  rw [List.any_eq_false]
  intro r hr
  obtain ⟨i, hi, rfl⟩ := List.getElem_of_mem hr
  have := h i hi
  rw [List.getD_eq_getElem?_getD, List.getElem?_eq_getElem hi] at this
  simpa using this
theorem Pl.anyR_one {p : List Pl.Rn → Bool} {rows : List (List Pl.Rn)} {i : Nat} (hi : i < rows.length) (h : p (rows.getD i []) = true) : rows.any p = true := by
  rw [List.any_eq_true]
  refine ⟨rows.getD i [], ?_, h⟩
  rw [List.getD_eq_getElem?_getD, List.getElem?_eq_getElem hi]
  exact List.getElem_mem hi
/-- more than a statement looks at -/
def Pl.crw (runs : List (List Pl.Rn)) : Bool := runs.any (fun r => decide (110 < r.length)) || decide (12 < runs.length)
theorem Pl.crw_no {runs : List (List Pl.Rn)} (h : Pl.crw runs = false) : runs.length ≤ 12 ∧ ∀ k, k < runs.length → (runs.getD k []).length ≤ 110 := by
  unfold Pl.crw at h
  rw [Bool.or_eq_false_iff] at h
  refine ⟨by have := of_decide_eq_false h.2; omega, fun k hk => ?_⟩
  rcases Nat.lt_or_ge 110 (runs.getD k []).length with c | c
  · rw [Pl.anyR_one (p := fun r => decide (110 < r.length)) hk (decide_eq_true c)] at h; cases h.1
  · exact c
theorem Pl.cwd_no {runs : List (List Pl.Rn)} (h : Pl.cwd runs = false) : runs.length ≤ 8 ∧ ∀ k, k < runs.length → (runs.getD k []).length ≤ 100 := by
  unfold Pl.cwd at h
  rw [Bool.or_eq_false_iff] at h
  refine ⟨by have := of_decide_eq_false h.1; omega, fun k hk => ?_⟩
  rcases Nat.lt_or_ge 100 (runs.getD k []).length with c | c
  · rw [Pl.anyR_one (p := fun r => decide (100 < r.length)) hk (decide_eq_true c)] at h; cases h.2
  · exact c
/-- a row of a slice of slices -/
theorem rr_rowR {w : World} {A : Option Addr} {rows : List (List Pl.Rn)} (h : RR rnL 4 w A rows) {k : Nat} (hk : k < rows.length) :
    ∃ b off, A = some ⟨b, off, none⟩ ∧ b < w.heap.size ∧ ∃ A' c', w.cell? ⟨b, off + k, none⟩ = some (.slice A' (rows.getD k []).length c') ∧ Rows rnL 4 w A' (rows.getD k []) ∧ (rows.getD k []).length ≤ c' ∧ c' ≤ maxLen := by
  obtain ⟨b, off, h1, h2, h3⟩ := h.open (by omega)
  exact ⟨b, off, h1, h2, h3 k hk⟩

set_option maxRecDepth 100000 in
set_option maxHeartbeats 2000000 in
theorem crw_b (A : Option Addr) (rows : List (List Pl.Rn)) (c m : Nat) (hm : rows.length = m) (hmc : m ≤ c) (hcm : c ≤ maxLen) (v : Bool) (hv : Pl.crw rows = v) (w : World) (hR : RR rnL 4 w A rows) :
    Calls Tryz.prog 37 #[.slice A m c] w fun e w' => e = .returned (.bool v) ∧ w' = w := by
  have HV1 : Hid (∀ k, k < m → 110 < (rows.getD k []).length → v = true) := Lib.hid (fun k hk h => by
    rw [← hv]; unfold Pl.crw; rw [Pl.anyR_one (by rw [hm]; exact hk) (decide_eq_true h)]; rfl)
  have HV2 : Hid ((∀ k, k < m → (rows.getD k []).length ≤ 110) → v = decide (12 < m)) := Lib.hid (fun h => by
    rw [← hv]; unfold Pl.crw
    rw [Pl.anyR_all (p := fun r => decide (110 < r.length)) (fun i hi => decide_eq_false (by have := h i (by rw [← hm]; exact hi); omega)), hm]; rfl)
  have HGR : Hid (∀ k, k < m → ∃ b off, A = some ⟨b, off, none⟩ ∧ b < w.heap.size ∧ ∃ A' c', w.cell? ⟨b, off + k, none⟩ = some (.slice A' (rows.getD k []).length c') ∧ Rows rnL 4 w A' (rows.getD k []) ∧ (rows.getD k []).length ≤ c' ∧ c' ≤ maxLen) := Lib.hid (fun k hk => rr_rowR hR (by rw [hm]; exact hk))
  have hm63 : m ≤ 9223372036854775807 := Nat.le_trans hmc hcm
  clear hR hm hmc hcm hv
  go_enter Tryz.func37, Tryz.ntmps37
  go_wp2
  go_loop [3] (fun i => ∃ k : Nat, k ≤ m ∧ i = .int .i64 k ∧ Hid (∀ j, j < k → (rows.getD j []).length ≤ 110)) (fun i => m - (intOf i).toNat)
  case atStart => exact ⟨0, Nat.zero_le _, rfl, Lib.hid (fun j hj => absurd hj (Nat.not_lt_zero _))⟩
  case round =>
    obtain ⟨k, hk, rfl, hno⟩ := hrel
    by_cases hlt : k < m
    · have hltI : (k : Int) < (m : Int) := by omega
      obtain ⟨b, off, rfl, hb, A', c', h1, h2, h3, h4⟩ := HGR.out k hlt
      obtain ⟨u, hu⟩ : ∃ u, (rows.getD k []).length = u := ⟨_, rfl⟩
      have HU := Lib.hid hu
      rw [hu] at h1
      clear h2 h3 h4 hu
      by_cases h6 : (110 : Int) < (u : Int)
      · have HF := Lib.hid (HV1.out k hlt (by rw [HU.out]; omega))
        go_wp2
        go_ret
        exact ⟨by rw [HF.out]; rfl, rfl⟩
      · go_wp2
        go_round
        case rel => exact ⟨k + 1, by omega, by go_num, Lib.hid (fun i hi => by
          rcases Nat.lt_succ_iff_lt_or_eq.1 hi with h' | rfl
          · exact hno.out i h'
          · rw [HU.out]; omega)⟩
        case measure => simp [intOf]; omega
    · obtain rfl : m = k := by omega
      by_cases h6 : (12 : Int) < (m : Int)
      · have HF : Hid (v = true) := Lib.hid ((HV2.out hno.out).trans (decide_eq_true (by omega)))
        go_wp2
        go_ret
        exact ⟨by rw [HF.out]; rfl, rfl⟩
      · have HF : Hid (v = false) := Lib.hid ((HV2.out hno.out).trans (decide_eq_false (by omega)))
        go_wp2
        go_ret
        exact ⟨by rw [HF.out]; rfl, rfl⟩

set_option maxRecDepth 100000 in
set_option maxHeartbeats 2000000 in
theorem vruns_b (A : Option Addr) (rows : List (List Pl.Rn)) (c m : Nat) (hm : rows.length = m) (v : Bool) (hv : Pl.cwd rows = v) (w : World) (hR : RR rnL 4 w A rows) :
    Calls Tryz.prog 29 #[.slice A m c] w fun e w' => e = .returned (.bool (!v)) ∧ w' = w := by
  have HV0 : Hid (8 < m → v = true) := Lib.hid (fun h => by
    rw [← hv]; unfold Pl.cwd; rw [hm, decide_eq_true h]; rfl)
  have HV1 : Hid (∀ k, k < m → 100 < (rows.getD k []).length → v = true) := Lib.hid (fun k hk h => by
    rw [← hv]; unfold Pl.cwd; rw [Pl.anyR_one (by rw [hm]; exact hk) (decide_eq_true h), Bool.or_true])
  have HV2 : Hid (¬ 8 < m → (∀ k, k < m → (rows.getD k []).length ≤ 100) → v = false) := Lib.hid (fun h8 h => by
    rw [← hv]; unfold Pl.cwd
    rw [Pl.anyR_all (p := fun r => decide (100 < r.length)) (fun i hi => decide_eq_false (by have := h i (by rw [← hm]; exact hi); omega)), hm, decide_eq_false h8]; rfl)
  have HGR : Hid (∀ k, k < m → ∃ b off, A = some ⟨b, off, none⟩ ∧ b < w.heap.size ∧ ∃ A' c', w.cell? ⟨b, off + k, none⟩ = some (.slice A' (rows.getD k []).length c') ∧ Rows rnL 4 w A' (rows.getD k []) ∧ (rows.getD k []).length ≤ c' ∧ c' ≤ maxLen) := Lib.hid (fun k hk => rr_rowR hR (by rw [hm]; exact hk))
  clear hR hm hv
  have hCl : ∀ (A' : Option Addr) (u c' : Nat), Calls Tryz.prog 60 #[.slice A' u c'] w fun e w' => e = .returned (.bool (decide ((100 : Int) < (u : Int)))) ∧ w' = w := fun A' u c' => by
    go_enter Tryz.func60, Tryz.ntmps60
    go_wp2
    go_ret
    exact ⟨rfl, rfl⟩
  have HCl := Lib.hid hCl
  clear hCl
  by_cases h8 : (8 : Int) < (m : Int)
  · have HF := Lib.hid (HV0.out (by omega))
    have hd : decide ((m : Int) ≤ 8) = false := by simp; omega
    go_enter Tryz.func29, Tryz.ntmps29
    go_wp2
    go_ret
    exact ⟨by rw [HF.out]; rfl, rfl⟩
  have HV3 := Lib.hid (HV2.out (by omega))
  have hm8 : m ≤ 8 := by omega
  have hm8I : (m : Int) ≤ 8 := by omega
  clear HV2 HV0
  have eg : ∀ args w, (callFunc 60 args).run Tryz.prog w = .ok (.enter 60 args) w := enters_of Tryz.func60 (by kernel_rfl) rfl
  have HIX : Hid (Calls Tryz.prog 84 #[.slice A m c, .func (.func 60) #[] #[]] w fun e w' => ∃ r : Int, e = .returned (.int .i64 r) ∧ decide (0 ≤ r) = v ∧ w' = w) := by
    refine Lib.hid ?_
    go_enter Tryz.func84, Tryz.ntmps84
    go_wp2
    go_loop [5, 8] (fun _ i => ∃ k : Nat, k ≤ m ∧ i = .int .i64 k ∧ Hid (∀ j, j < k → (rows.getD j []).length ≤ 100)) (fun _ i => m - (intOf i).toNat)
    case atStart => exact ⟨0, Nat.zero_le _, rfl, Lib.hid (fun j hj => absurd hj (Nat.not_lt_zero _))⟩
    case round =>
      obtain ⟨k, hk, rfl, hno⟩ := hrel
      by_cases hlt : k < m
      · have hltI : (k : Int) < (m : Int) := by omega
        obtain ⟨b, off, rfl, hb, A', c', h1, h2, h3, h4⟩ := HGR.out k hlt
        obtain ⟨u, hu⟩ : ∃ u, (rows.getD k []).length = u := ⟨_, rfl⟩
        have HU := Lib.hid hu
        rw [hu] at h1
        have HC := Lib.hid (HCl.out A' u c')
        clear h2 h3 h4 hu
        by_cases h6 : (100 : Int) < (u : Int)
        · have HF := Lib.hid (HV1.out k hlt (by rw [HU.out]; omega))
          rw [decide_eq_true h6] at HC
          go_wp2_with fail
          refine HC.out.mono ?_
          rintro e w1 ⟨rfl, hw1⟩
          obtain rfl : w = w1 := hw1.symm
          go_wp2
          go_ret
          exact ⟨_, rfl, by rw [HF.out]; simp, rfl⟩
        · rw [decide_eq_false h6] at HC
          go_wp2_with fail
          refine HC.out.mono ?_
          rintro e w1 ⟨rfl, hw1⟩
          obtain rfl : w = w1 := hw1.symm
          go_wp2
          go_round
          case rel => exact ⟨k + 1, by omega, by go_num, Lib.hid (fun i hi => by
            rcases Nat.lt_succ_iff_lt_or_eq.1 hi with h' | rfl
            · exact hno.out i h'
            · rw [HU.out]; omega)⟩
          case measure => simp [intOf]; omega
      · obtain rfl : m = k := by omega
        have HF := Lib.hid (HV3.out hno.out)
        go_wp2
        go_ret
        exact ⟨_, rfl, by rw [HF.out]; rfl, rfl⟩
  have HCF : Hid (Calls Tryz.prog 61 #[.slice A m c, .func (.func 60) #[] #[]] w fun e w' => e = .returned (.bool v) ∧ w' = w) := by
    refine Lib.hid ?_
    go_enter Tryz.func61, Tryz.ntmps61
    go_wp2_with fail
    refine HIX.out.mono ?_
    rintro e w2 ⟨r, rfl, hr, hw2⟩
    obtain rfl : w = w2 := hw2.symm
    have HV : Hid (v = decide (0 ≤ r)) := Lib.hid hr.symm
    clear hr
    go_wp2
    go_ret
    exact ⟨by rw [HV.out]; rfl, rfl⟩
  clear HIX eg
  go_enter Tryz.func29, Tryz.ntmps29
  go_wp2_with fail
  refine HCF.out.mono ?_
  rintro e w2 ⟨rfl, hw2⟩
  obtain rfl : w = w2 := hw2.symm
  go_wp2
  go_ret
  exact ⟨rfl, rfl⟩
end Go.Proofs.YtlfbfdhdkccaeaaGreat

