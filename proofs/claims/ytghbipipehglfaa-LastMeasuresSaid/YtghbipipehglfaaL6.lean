/- LastMeasures. -/
import Derived.Test.YtghbipipehglfaaL5
namespace Go.Proofs.Ytghbipipehglfaa
open Go.RowKit Go.Shelf

theorem meas_line {x : Int} {vs : List Int} (h : Pl.lineE vs x [] = 0) : Pl.lineE vs x (stabV x vs) = 0 ∧ stbV x vs (stabV x vs) = true := by
  obtain ⟨h1, _, h3, _, h5, h6⟩ := Pl.lineE_zero h
  have hs : stabV x vs = (Pl.stabT x vs).reverse := if_pos h
  have hl := Pl.stabT_len x vs
  have hz : Pl.lineE vs x (stabV x vs) = 0 := by
    refine Pl.lineE_ok (by rw [hs]; simp; omega) ?_
    unfold Pl.lineOk
    rw [Pl.allIn_true.2 h3, Pl.inB_true.2 ⟨h5, h6⟩, Pl.allIn_true.2 fun v hv => ?_]
    · rfl
    · rw [hs, List.mem_reverse] at hv
      have := h3 _ ((Pl.stab_apart h5 vs).2 v hv)
      omega
  refine ⟨hz, ?_⟩
  unfold stbV
  rw [if_pos hz, Pl.covs_iff]
  intro v hv
  obtain ⟨s, hs', h⟩ := Pl.stab_covers h5 vs v hv
  exact ⟨s, by rw [hs, List.mem_reverse]; exact hs', h⟩
theorem meas_len (x : Int) (vs : List Int) : (stabV x vs).length = (sprdV x vs).length := by
  unfold stabV sprdV
  split
  · rename_i h
    rw [List.length_reverse]
    exact Pl.stab_sprd (Pl.lineE_zero h).2.2.2.2.1 vs
  · rfl
theorem meas_apart {x : Int} {vs : List Int} (h : Pl.lineE vs x [] = 0) : ∀ i, i + 1 < (sprdV x vs).length → (sprdV x vs).getD i 0 + x < (sprdV x vs).getD (i + 1) 0 := by
  intro i hi
  have hs : sprdV x vs = Pl.sprdT x vs := if_pos h
  rw [hs] at hi ⊢
  have hp := (Pl.sprd_apart (Pl.lineE_zero h).2.2.2.2.1 vs).1
  have := List.pairwise_iff_getElem.1 hp i (i + 1) (by omega) hi (by omega)
  rw [List.getD_eq_getElem?_getD, List.getD_eq_getElem?_getD, List.getElem?_eq_getElem hi, List.getElem?_eq_getElem (by omega)]
  exact this
theorem meas_mem {x : Int} {vs : List Int} (h : Pl.lineE vs x [] = 0) : ∀ v, v ∈ sprdV x vs → v ∈ vs := by
  rw [show sprdV x vs = Pl.sprdT x vs from if_pos h]
  exact (Pl.sprd_apart (Pl.lineE_zero h).2.2.2.2.1 vs).2

set_option maxRecDepth 100000 in
set_option maxHeartbeats 8000000 in
theorem law_measures (A B : Option Addr) (vs ls : List Int) (c d : Nat) (x : Int) (w : World) (hI : Ints w A vs) (hJ : Ints w B ls) :
    Calls Try.prog 7 #[.slice A vs.length c, .int .i64 x, .slice B ls.length d] w fun e w' => e = .returned (.bool true) ∧ Below w.heap.size w w' := by
  have H1 := Lib.hid (fun w => stab_any A vs c x w)
  have H3 := Lib.hid (fun w => spread_any A vs c x w)
  have HI := Lib.hid hI
  have HJ := Lib.hid hJ
  have hlen := meas_len x vs
  have hl2 := sprdV_len x vs
  clear hI hJ
  by_cases h0 : Pl.lineE vs x [] = 0
  · obtain ⟨hv200, _, hvs, _, hx0, hx1⟩ := Pl.lineE_zero h0
    obtain ⟨hz1, hz2⟩ := meas_line h0
    have H5 := Lib.hid (fun A' c' w hI hI' => stabbed_any A A' vs (stabV x vs) c c' x w hI hI')
    rw [hz1, hz2] at H5
    have HAP := Lib.hid (meas_apart h0)
    have HMEM := Lib.hid (fun i hi => meas_mem h0 _ (Pl.getD_mem (l := sprdV x vs) (i := i) hi))
    have HVB := Lib.hid hvs
    have H6 := Lib.hid (fun w => stabbed_any A B vs ls c d x w)
    have hfin : Pl.lineE vs x ls = 0 → stbV x vs ls = true → (sprdV x vs).length ≤ ls.length := fun h1 h2 => by
      rw [show sprdV x vs = Pl.sprdT x vs from if_pos h0]
      refine Pl.sprd_least hx0 ?_
      rw [show stbV x vs ls = Pl.covs x ls vs from if_pos h1] at h2
      exact h2
    rw [h0] at H1 H3
    clear h0 hz1 hz2 hvs
    generalize stabV x vs = l1 at *
    generalize sprdV x vs = l2 at *
    generalize stbV x vs ls = b at *
    generalize Pl.lineE vs x ls = e2 at *
    have HFIN : Hid (((e2 == 0) = false ∧ (e2 != 0) = true) ∨ (e2 = 0 ∧ b = false) ∨ (e2 = 0 ∧ b = true ∧ l2.length ≤ ls.length)) := Lib.hid (by
      by_cases h : e2 = 0
      · cases b with
        | false => exact .inr (.inl ⟨h, rfl⟩)
        | true => exact .inr (.inr ⟨h, rfl, hfin h rfl⟩)
      · exact .inl ⟨by simp [h], by simp [h]⟩)
    clear hfin
    have hle : ((l1.length : Int) == (l2.length : Int)) = true := by rw [hlen]; simp
    go_enter Try.func7, Try.ntmps7
    go_wp2_with fail
    refine (H1.out _ HI.out).mono ?_
    rintro e w1 ⟨v1, rfl, hown1, hb1⟩
    obtain ⟨A1, c1, rfl, hI1⟩ := ints_of_owns hown1
    go_wp2_with fail
    refine (H3.out _ (HI.out.below hb1)).mono ?_
    rintro e w2 ⟨v2, rfl, hown2, hb2⟩
    obtain ⟨A2, c2, rfl, hI2⟩ := ints_of_owns hown2
    have hB2 := hb1.trans (hb2.mono hb1.size)
    have HI1 := Lib.hid (hI1.below hb2)
    have HI2 := Lib.hid hI2
    clear hown1 hown2 hI1 hI2 hb1 hb2
    try rw [hlen]
    go_wp2_with fail
    have HS5 := Lib.hid (H5.out A1 c1 _ (HI.out.below hB2) HI1.out)
    try rw [hlen] at HS5
    refine HS5.out.mono ?_
    rintro e w3 ⟨rfl, hb3⟩
    have hB3 := hB2.trans (hb3.mono hB2.size)
    have HI2' := Lib.hid (HI2.out.below hb3)
    clear hb3 hB2 HI2 HI1 HS5 H5
    go_wp2
    go_loop [13, 14, 57] (fun _ _ i => ∃ k : Nat, k ≤ l2.length ∧ i = .int .i64 k) (fun _ _ i => l2.length - (intOf i).toNat)
    case atStart => exact ⟨0, Nat.zero_le _, rfl⟩
    case round =>
      obtain ⟨k, hk, rfl⟩ := hrel
      by_cases hlt : k < l2.length
      · obtain ⟨bz, oz, rfl, hcz⟩ : ∃ bb off, A2 = some ⟨bb, off, none⟩ ∧ ∀ j, j < l2.length → w3.cell? ⟨bb, off + j, none⟩ = some (.int .i64 (l2.getD j 0)) := by
          rcases HI2'.out with h | ⟨bb, off, he, _, hc⟩
          · rw [h] at hlt; simp at hlt
          · exact ⟨bb, off, he, hc⟩
        have hck := hcz k hlt
        have hmk := HMEM.out k hlt
        obtain ⟨b1, b2⟩ := HVB.out _ hmk
        have HHAS := Lib.hid (has_yes A vs c (l2.getD k 0) (by omega) hmk w3 (HI.out.below hB3))
        cases k with
        | zero =>
          have hck0 : w3.cell? ⟨bz, oz, none⟩ = some (.int .i64 (l2.getD 0 0)) := hck
          clear hcz hmk hck
          generalize l2.getD 0 0 = y at *
          go_wp2_with (go_at_call 25; refine HHAS.out.mono ?_; rintro e w' ⟨rfl, hw'⟩; obtain rfl : w3 = w' := hw'.symm)
          go_round
          case rel => exact ⟨1, by omega, rfl⟩
          case measure => simp [intOf]; omega
        | succ k =>
          have hcp := hcz k (by omega)
          have hap := HAP.out k hlt
          obtain ⟨d1, d2⟩ := HVB.out _ (HMEM.out k (by omega))
          clear hcz hmk
          generalize l2.getD (k + 1) 0 = y at *
          generalize l2.getD k 0 = z at *
          have hyz : ¬ y - z ≤ x := by omega
          go_wp2_with (go_at_call 25; refine HHAS.out.mono ?_; rintro e w' ⟨rfl, hw'⟩; obtain rfl : w3 = w' := hw'.symm)
          go_round
          case rel => exact ⟨k + 1 + 1, by omega, by go_num⟩
          case measure => simp [intOf]; omega
      · obtain rfl : k = l2.length := by omega
        go_wp2_with fail
        refine (H6.out _ (HI.out.below hB3) (HJ.out.below hB3)).mono ?_
        rintro e w4 ⟨rfl, hb4⟩
        have hB4 := hB3.trans (hb4.mono hB3.size)
        clear hb4 hB3
        rcases HFIN.out with ⟨g1, g2⟩ | ⟨rfl, rfl⟩ | ⟨rfl, rfl, hge⟩
        all_goals
          go_wp2_with fail
          refine (awake_any _).mono ?_
          rintro e wa ⟨rfl, hba⟩
          go_wp2
          go_ret
          exact ⟨rfl, hB4.trans (hba.mono hB4.size)⟩
  · generalize stabV x vs = l1 at *
    generalize sprdV x vs = l2 at *
    generalize Pl.lineE vs x [] = e1 at *
    have g1 : (e1 == 0) = false := by simp [h0]
    have g2 : (e1 != 0) = true := by simp [h0]
    clear h0
    go_enter Try.func7, Try.ntmps7
    go_wp2_with fail
    refine (H1.out _ HI.out).mono ?_
    rintro e w1 ⟨v1, rfl, hown1, hb1⟩
    obtain ⟨A1, c1, rfl⟩ := own_slice hown1
    go_wp2_with fail
    refine (H3.out _ (HI.out.below hb1)).mono ?_
    rintro e w2 ⟨v2, rfl, hown2, hb2⟩
    obtain ⟨A2, c2, rfl⟩ := own_slice hown2
    have hB2 := hb1.trans (hb2.mono hb1.size)
    clear hown1 hown2 hb1 hb2
    try rw [hlen]
    go_wp2_with fail
    refine (awake_any _).mono ?_
    rintro e wa ⟨rfl, hba⟩
    go_wp2
    go_ret
    exact ⟨rfl, hB2.trans (hba.mono hB2.size)⟩
end Go.Proofs.Ytghbipipehglfaa
