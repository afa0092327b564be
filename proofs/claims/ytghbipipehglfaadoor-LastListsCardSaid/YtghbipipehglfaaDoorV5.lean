/- The law LastLists. -/
import Derived.Test.YtghbipipehglfaaDoorC17
import Derived.Test.YtghbipipehglfaaDoorC18
import Derived.Test.YtghbipipehglfaaDoorC19
import Derived.Test.YtghbipipehglfaaDoorA13
namespace Go.Proofs.YtghbipipehglfaaDoor
open Go.RowKit Go.Shelf

theorem Lol.get {W : World} {B n c : Nat} {A : Option Addr} {L : List (List Nat)} (h : Lol W B (.slice A n c) L) {i : Nat} (hi : i < L.length) :
    ∃ g, A = some ⟨g, 0, none⟩ ∧ g < W.heap.size ∧ ∃ A2 c2, W.cell? ⟨g, i, none⟩ = some (.slice A2 (nts (L.getD i [])).length c2) ∧ Ints W A2 (nts (L.getD i [])) := by
  obtain ⟨xs, h1, h2⟩ := h
  obtain ⟨u, e, h3⟩ := h2 i hi
  have hh := h1
  rcases h1.2 with ⟨_, h0⟩ | ⟨g, cap, cur, e2, _, hg, _⟩
  · omega
  · have e3 : A = some ⟨g, 0, none⟩ := by
      have := congrArg (fun v => match v with | .slice a _ _ => a | _ => none) e2
      exact this
    subst e3
    rw [e2] at hh
    have := hh.cellAt i (by omega)
    rw [e] at this
    obtain ⟨A2, c2, rfl, hI⟩ := ints_of_owns h3
    exact ⟨g, rfl, (Array.getElem?_eq_some_iff.1 hg).1, A2, c2, this, hI⟩
theorem ftLL_len (ss : List Pl.Sz) (hs : List Pl.Hd) : (ftLL ss hs).length ≤ 20 ∧ ∀ i, ((ftLL ss hs).getD i []).length ≤ 64 := by
  unfold ftLL
  split
  · rename_i hb
    obtain ⟨⟨s1, _⟩, _⟩ := bothE_ok hb
    refine ⟨by rw [fitLL_len]; exact s1, fun i => ?_⟩
    unfold fitLL
    rw [List.getD_eq_getElem?_getD, List.getElem?_map]
    cases (List.range ss.length)[i]? with
    | none => simp
    | some q => exact Pl.els_len _ _
  · exact ⟨by simp, fun i => by simp⟩

set_option maxRecDepth 100000 in
set_option maxHeartbeats 8000000 in
theorem law_lists (A B : Option Addr) (ss : List Pl.Sz) (hs : List Pl.Hd) (c d : Nat) (w : World) (hT : Tab w) (c1 : ss.length ≤ c) (c2 : ss.length ≤ 9223372036854775807) (c3 : hs.length ≤ d) (c4 : hs.length ≤ 9223372036854775807)
    (hI : Szs w A ss) (hJ : Hds w B hs) :
    Calls Tryd.prog 3 #[.slice A ss.length c, .slice B hs.length d] w fun e w' => e = .returned (.bool true) ∧ Below w.heap.size w w' := by
  have H1 := Lib.hid (valid_sizes A ss c w hI)
  have H2 := Lib.hid (fun (w' : World) (hb : Below w.heap.size w w') => rvalid_sizes A ss c w' c1 c2 (hI.below hb))
  have H3 := Lib.hid (fun (w' : World) (hb : Below w.heap.size w w') => valid_heads B hs d w' (hJ.below hb))
  have H4 := Lib.hid (fun (w' : World) (hb : Below w.heap.size w w') => rvalid_heads B hs d w' c3 c4 (hJ.below hb))
  have H5 := Lib.hid (fun (w' : World) (hb : Below w.heap.size w w') => Fitted_any A B ss hs c d w' (hT.below hb) (hI.below hb) (hJ.below hb))
  have H6 := Lib.hid (fun (w' : World) (hb : Below w.heap.size w w') => rFitted_any A B ss hs c d w' c1 c2 c3 c4 (hI.below hb) (hJ.below hb))
  have H7 := Lib.hid (fun (h : Pl.Hd) (w' : World) (hb : Below w.heap.size w w') => Choose_any A ss h c w' (hI.below hb))
  have H8 := Lib.hid (fun (h : Pl.Hd) (w' : World) (hb : Below w.heap.size w w') => rChoose_any A ss h c w' c1 c2 (hI.below hb))
  have hLL := Lib.hid (ftLL_len ss hs)
  have HJ := Lib.hid hJ
  generalize Pl.vszs ss = x1 at *
  generalize Pl.vhds hs = x2 at *
  generalize bothE ss hs = e1 at *
  generalize ftLL ss hs = LL at *
  have n1 : (e1 != e1) = false := by simp
  have n2 : (x1 != x1) = false := by simp
  have n3 : (x2 != x2) = false := by simp
  have n4 : ((LL.length : Int) != (LL.length : Int)) = false := by simp
  clear hI hJ hT
  go_enter Tryd.func3, Tryd.ntmps3
  go_wp2_with fail
  refine H1.out.mono ?_
  rintro e w1 ⟨rfl, hb1⟩
  have hH2 := H2.out _ hb1
  clear H1 H2
  go_wp2_with fail
  refine hH2.mono ?_
  rintro e w2 ⟨rfl, hb2⟩
  have hB2 := hb1.trans (hb2.mono hb1.size)
  have hH3 := H3.out _ hB2
  clear hH2 hb1 hb2 H3
  go_wp2_with fail
  refine hH3.mono ?_
  rintro e w3 ⟨rfl, hb3⟩
  have hB3 := hB2.trans (hb3.mono hB2.size)
  have hH4 := H4.out _ hB3
  clear hH3 hB2 hb3 H4
  go_wp2_with fail
  refine hH4.mono ?_
  rintro e w4 ⟨rfl, hb4⟩
  have hB4 := hB3.trans (hb4.mono hB3.size)
  have hH5 := H5.out _ hB4
  clear hH4 hB3 hb4 H5
  go_wp2_with fail
  refine hH5.mono ?_
  rintro e w5 ⟨v5, rfl, hL5, hb5⟩
  obtain ⟨A5, k5, rfl⟩ := hL5.slice
  have hB5 := hB4.trans (hb5.mono hB4.size)
  have hH6 := H6.out _ hB5
  clear hH5 hB4 hb5 H6
  go_wp2_with fail
  refine hH6.mono ?_
  rintro e w6 ⟨v6, rfl, hL6, hb6⟩
  obtain ⟨A6, k6, rfl⟩ := hL6.slice
  have hB6 := hB5.trans (hb6.mono hB5.size)
  have hL5' := hL5.below hb6
  clear hH6 hB5 hb6 hL5
  have HA := Lib.hid hL5'
  have HB := Lib.hid hL6
  have HB6 := Lib.hid hB6
  clear hL5' hL6 hB6
  go_wp2
  go_loopw [9, 52] (fun _ i wr => ∃ k : Nat, k ≤ LL.length ∧ i = .int .i64 k ∧ Below w6.heap.size w6 wr) (fun _ i _ => LL.length - (intOf i).toNat)
  case atStart => exact ⟨0, Nat.zero_le _, rfl, Below.refl _ _⟩
  case round =>
    obtain ⟨k, hk, rfl, hB⟩ := hrel
    obtain ⟨wo, rfl⟩ : ∃ wo, wo = wr := ⟨_, rfl⟩
    have hll := hLL.out.1
    by_cases hlt : k < LL.length
    · obtain ⟨g5, rfl, hg5, B5, m5, hc5, hI5⟩ := HA.out.get hlt
      obtain ⟨g6, rfl, hg6, B6, m6, hc6, hI6⟩ := HB.out.get hlt
      have hln := hLL.out.2 k
      have hl100 : (nts (LL.getD k [])).length ≤ 100000 := by rw [nts_len]; omega
      generalize nts (LL.getD k []) = L at *
      have q5 := (hB.cell (p := ⟨g5, k, none⟩) hg5).trans hc5
      have q6 := (hB.cell (p := ⟨g6, k, none⟩) hg6).trans hc6
      have j5 := hI5.below hB
      have j6 := hI6.below hB
      have z1 := fun e : Ext wo => e.cell q5
      have z2 := fun e : Ext wo => e.cell q6
      have HSM := Lib.hid (fun e : Ext wo => same_yes B5 B6 L m5 m6 hl100 e.w (j5.below e.h) (j6.below e.h))
      clear hc5 hc6 hI5 hI6 q5 q6 j5 j6 hln
      go_wp2
      refine wp_region_ext (by kernel_rfl) (by kernel_rfl) ?_
      repeat (go_big_quiet_step ((go_at_call 15; refine calls_ext (HSM.out _))))
      refine wpQuiet_nil ?_
      rintro _ ⟨e, rfl⟩
      have hB2 := hB.trans (e.h.mono hB.size)
      generalize e.w = W2 at *
      clear z1 z2 hB e HSM
      go_wp2
      go_roundw
      case rel => exact ⟨k + 1, by omega, by go_num, hB2⟩
      case measure => simp [intOf]; omega
    · obtain rfl : k = LL.length := by omega
      have hBw := HB6.out.trans (hB.mono HB6.out.size)
      clear hB HA HB
      go_wp2
      go_loopw [10, 11, 12, 13, 14, 15, 68] (fun _ _ _ _ _ _ i wr => ∃ j : Nat, j ≤ hs.length ∧ j ≤ 50 ∧ i = .int .i64 j ∧ Below w.heap.size w wr) (fun _ _ _ _ _ _ i _ => 51 - (intOf i).toNat)
      case atStart => exact ⟨0, Nat.zero_le _, by omega, rfl, hBw⟩
      case round =>
        clear hBw
        obtain ⟨j, hj, hj50, rfl, hB⟩ := hrel
        obtain ⟨wp, rfl⟩ : ∃ wp, wp = wr := ⟨_, rfl⟩
        by_cases hjn : j < hs.length
        · obtain ⟨by_, oy, rfl, hby, hcy⟩ : ∃ bb off, B = some ⟨bb, off, none⟩ ∧ bb < w.heap.size ∧ ∀ j, j < hs.length → w.rangeAt bb (off + j * 6) (hdA (hs.getD j zhd)).toList := by
            rcases HJ.out with h | ⟨bb, off, he, hb, hc⟩
            · rw [h] at hjn; simp at hjn
            · exact ⟨bb, off, he, hb, hc⟩
          have hcj := rangeAt_below (hcy j hjn) hby hB
          clear hcy
          generalize hs.getD j zhd = F1 at *
          have bF : Blk (wp.alloc (.cells (hdA F1) 34)) wp.heap.size 34 (hdA F1) := Blk.new wp _ _
          have hB1 := hB.alloc hB.size (.cells (hdA F1) 34)
          have r1 := bF.range
          have HC1 := Lib.hid (H7.out F1)
          have HC2 := Lib.hid (H8.out F1)
          generalize chV ss F1 = cv at *
          generalize chE ss F1 = ce at *
          have m1 : (ce != ce) = false := by simp
          have m2 : (((cv : Nat) : Int) != (cv : Int)) = false := by simp
          clear hB
          by_cases h50 : j < 50
          · have hng : ¬ (50 : Int) ≤ j := by omega
            go_wp2_with (first | refine ldm_head hcj rfl _ rfl rfl ?_ | refine ldm_head r1 rfl _ rfl rfl ?_)
            refine (HC1.out _ hB1).mono ?_
            rintro e w8 ⟨rfl, hb8⟩
            have hB8 := hB1.trans (hb8.mono hB1.size)
            have r2 := rangeAt_below r1 bF.lt hb8
            clear r1 bF hb8 hB1
            go_wp2_with (refine ldm_head r2 rfl _ rfl rfl ?_)
            refine (HC2.out _ hB8).mono ?_
            rintro e w9 ⟨rfl, hb9⟩
            have hB9 := hB8.trans (hb9.mono hB8.size)
            clear r2 hb9 hB8
            go_wp2
            go_roundw
            case rel => exact ⟨j + 1, by omega, by omega, by go_num, hB9⟩
            case measure => simp [intOf]; omega
          · obtain rfl : j = 50 := by omega
            go_wp2_with (first | refine ldm_head hcj rfl _ rfl rfl ?_ | fail)
            refine (awake_any _).mono ?_
            rintro e w7 ⟨rfl, hb7⟩
            go_wp2
            go_ret
            exact ⟨rfl, hB1.trans (hb7.mono hB1.size)⟩
        · obtain rfl : j = hs.length := by omega
          go_wp2_with fail
          refine (awake_any _).mono ?_
          rintro e w7 ⟨rfl, hb7⟩
          go_wp2
          go_ret
          exact ⟨rfl, hB.trans (hb7.mono hB.size)⟩
end Go.Proofs.YtghbipipehglfaaDoor
