/- Choose of the program. -/
import Derived.Test.YtghbipipehglfaaDoorC16
namespace Go.Proofs.YtghbipipehglfaaDoor
open Go.RowKit Go.Shelf

set_option maxRecDepth 100000 in
set_option maxHeartbeats 8000000 in
theorem Choose_any (A : Option Addr) (ss : List Pl.Sz) (h : Pl.Hd) (c : Nat) (w : World) (hI : Szs w A ss) :
    Calls Tryd.prog 16 #[.slice A ss.length c, .agg (hdA h)] w fun e w' => e = .returned (.tuple #[.int .i64 (chV ss h : Nat), .int .i64 (chE ss h)]) ∧ Below w.heap.size w w' := by
  have hB0 := ((Below.refl w.heap.size w).alloc (Nat.le_refl _) (.cells #[.slice A ss.length c] 22)).alloc (by simp) (.cells (hdA h) 34)
  have bS := (Blk.new w 22 #[.slice A ss.length c]).alloc (.cells (hdA h) 34)
  have bH := Blk.new (w.alloc (.cells #[.slice A ss.length c] 22)) 34 (hdA h)
  simp only [World.size_alloc] at bH
  have H1 := Lib.hid (valid_sizes A ss c _ (hI.below hB0))
  have H2 := Lib.hid (fun v (hv : Pl.vh h = v) w => vhead_b h v hv w)
  have hbs := bS.lt
  have hbh := bH.lt
  have qs := bS.cell 0
  simp only [List.getElem?_toArray, List.getElem?_cons_zero] at qs
  rcases chE_four ss h with ⟨h1, _, he, hv⟩ | ⟨h1, h2, _, he, hv⟩ | ⟨h1, h2, _, h3, he, hv⟩ | ⟨r, h1, h2, _, h3, he, hv⟩
  · rw [he, hv]
    rw [h1] at H1
    clear he hv h1 H2
    go_enter Tryd.func16, Tryd.ntmps16
    go_wp2_with fail
    refine H1.out.mono ?_
    rintro e w1 ⟨rfl, hb1⟩
    go_wp2
    go_ret2
    exact ⟨rfl, hB0.trans (hb1.mono hB0.size)⟩
  · rw [he, hv]
    rw [h1] at H1
    have H3 := Lib.hid (fun w => H2.out false h2 w)
    clear he hv h1 h2 H2
    go_enter Tryd.func16, Tryd.ntmps16
    go_wp2_with fail
    refine H1.out.mono ?_
    rintro e w1 ⟨rfl, hb1⟩
    have r1 := (bH.below hb1 hbh).range
    go_wp2_with (refine ldm_head r1 rfl _ rfl rfl ?_)
    refine (H3.out _).mono ?_
    rintro e w2 ⟨rfl, hb2⟩
    go_wp2
    go_ret2
    have hB1 := hB0.trans (hb1.mono hB0.size)
    exact ⟨rfl, hB1.trans (hb2.mono hB1.size)⟩
  all_goals
    obtain ⟨hs20, hsv⟩ := Pl.vszs_ok h1
    rw [he, hv]
    rw [h1] at H1
    have H3 := Lib.hid (fun w => H2.out true h2 w)
    have HSV := Lib.hid hsv
    have HH := Lib.hid h2
    have HI := Lib.hid hI
    have HBST := Lib.hid h3
    clear he hv h1 h2 H2 hsv h3 hI
    go_enter Tryd.func16, Tryd.ntmps16
    go_wp2_with fail
    refine H1.out.mono ?_
    rintro e w1 ⟨rfl, hb1⟩
    have bH1 := bH.below hb1 hbh
    have bS1 := bS.below hb1 hbs
    have hB1 := hB0.trans (hb1.mono hB0.size)
    have r1 := bH1.range
    clear bH bS qs hb1 hB0 H1
    go_wp2_with (refine ldm_head r1 rfl _ rfl rfl ?_)
    refine (H3.out _).mono ?_
    rintro e w2 ⟨rfl, hb2⟩
    have bH2 := bH1.below hb2 bH1.lt
    have bS2 := bS1.below hb2 bS1.lt
    have hB2 := hB1.trans (hb2.mono hB1.size)
    clear bH1 bS1 r1 hb2 hB1 H3
    have qs := bS2.cell 0
    simp only [List.getElem?_toArray, List.getElem?_cons_zero] at qs
    go_wp2
    go_loopw [6, 7, 8, 17] (fun tv _ _ i wr => ∃ k : Nat, k ≤ ss.length ∧ i = .int .i64 k ∧ wr.ownsRow w.heap.size 3 1 tv (nts (Pl.ftg ss h k)).length (ints (nts (Pl.ftg ss h k))) ∧ Blk wr w.heap.size 22 #[.slice A ss.length c] ∧ Blk wr (w.heap.size + 1) 34 (hdA h) ∧ Below w.heap.size w wr) (fun _ _ _ i _ => ss.length - (intOf i).toNat)
    case atStart => exact ⟨0, Nat.zero_le _, rfl, World.ownsRow_nil _ _ _ _, bS2, bH2, hB2⟩
    case round =>
      clear bS2 bH2 hB2 qs
      obtain ⟨k, hk, rfl, hown, bS, bH, hB⟩ := hrel
      obtain ⟨wo, rfl⟩ : ∃ wo, wo = wr := ⟨_, rfl⟩
      have hfl : (Pl.ftg ss h k).length ≤ 20 := Nat.le_trans (List.length_filter_le _ _) (by simp; omega)
      by_cases hlt : k < ss.length
      · obtain ⟨bz, oz, rfl, hbz, hcz⟩ : ∃ bb off, A = some ⟨bb, off, none⟩ ∧ bb < w.heap.size ∧ ∀ j, j < ss.length → w.rangeAt bb (off + j * 17) (szA (ss.getD j Pl.zsz)).toList := by
          rcases HI.out with h | ⟨bb, off, he, hb, hc⟩
          · rw [h] at hlt; simp at hlt
          · exact ⟨bb, off, he, hb, hc⟩
        have hcs := rangeAt_below (hcz k hlt) hbz hB
        have hsv := Lib.hid (HSV.out k hlt)
        have HFS := Lib.hid (Pl.ftg_succ ss h k)
        clear hcz
        obtain ⟨b, hb⟩ : ∃ b, Pl.fit (ss.getD k Pl.zsz) h = b := ⟨_, rfl⟩
        rw [hb] at HFS
        generalize ss.getD k Pl.zsz = E1 at *
        have HFT := Lib.hid (fun w => fits_any E1 h hsv.out HH.out w)
        rw [hb] at HFT
        clear hb
        have bE : Blk (wo.alloc (.cells (szA E1) 46)) wo.heap.size 46 (szA E1) := Blk.new wo _ _
        have hB3 := hB.alloc hB.size (.cells (szA E1) 46)
        have hbl := bS.lt
        have hhl := bH.lt
        have bS3 := bS.alloc (.cells (szA E1) 46)
        have bH3 := bH.alloc (.cells (szA E1) 46)
        have hown3 := hown.alloc (.cells (szA E1) 46)
        have r1 := bE.range
        have r2 := bH3.range
        clear bS bH hown hB bE
        go_wp2_with (first | refine ldm_size hcs rfl _ rfl rfl ?_ | refine ldm_size r1 rfl _ rfl rfl ?_ | refine ldm_head r2 rfl _ rfl rfl ?_)
        refine (HFT.out _).mono ?_
        rintro e w6 ⟨rfl, hb6⟩
        have bS6 := bS3.below hb6 bS3.lt
        have bH6 := bH3.below hb6 bH3.lt
        have hown6 := own_keep hown3 hb6
        have hB6 := hB3.trans (hb6.mono hB3.size)
        clear bS3 bH3 hown3 hB3 hb6 r1 r2 hcs HFT
        cases b with
        | false =>
          have HN : Hid (Pl.ftg ss h (k + 1) = Pl.ftg ss h k) := Lib.hid HFS.out
          go_wp2
          go_roundw
          case rel => exact ⟨k + 1, by omega, by go_num, by rw [HN.out]; exact hown6, bS6, bH6, hB6⟩
          case measure => simp [intOf]; omega
        | true =>
          have HN : Hid (Pl.ftg ss h (k + 1) = Pl.ftg ss h k ++ [k]) := Lib.hid HFS.out
          go_wp2_with (at_builtin; refine ap_int (n := (k : Int)) (hown6.alloc _) rfl _ _ rfl rfl _ rfl ((Blk.new _ _ _).cell 0) (by rw [nts_len]; omega) (by have := hB6.size; simp; omega) ?_; intro v7 w7 hown7 hg7; have hB7 := (hB6.alloc hB6.size _).grown hg7 (by have := hB6.size; simp; omega) (fun s e => (hown6.lt s e).1); have bS7 := (bS6.alloc _).grew (hown6.alloc _) hg7 (.inr (by decide)); have bH7 := (bH6.alloc _).grew (hown6.alloc _) hg7 (.inr (by decide)); rw [← nts_snoc] at hown7)
          go_roundw
          case rel => exact ⟨k + 1, by omega, by go_num, by rw [HN.out]; exact hown7, bS7, bH7, hB7⟩
          case measure => simp [intOf]; omega
      · obtain rfl : k = ss.length := by omega
        have hlf := fun i (hi : i ∈ Pl.ftg ss h ss.length) => (Pl.ftg_lt hi).1
        obtain ⟨A9, c9, rfl, hI9, _⟩ := own_list hown
        have HLF := Lib.hid hlf
        have HI9 := Lib.hid hI9
        have HIO := Lib.hid (HI.out.below hB)
        have qs := bS.cell 0
        simp only [List.getElem?_toArray, List.getElem?_cons_zero] at qs
        have QS := Lib.hid qs
        have BH := Lib.hid bH
        have hnl := nts_len (Pl.ftg ss h ss.length)
        rw [hnl]
        clear hown hI9 hlf qs hnl
        first
          | (have h0 : (Pl.ftg ss h ss.length).length = 0 := by rw [Pl.bst_none.1 HBST.out]; rfl
             generalize (Pl.ftg ss h ss.length).length = N at *
             subst h0
             clear HLF HI9 bS bH
             go_wp2
             go_ret2
             exact ⟨rfl, hB⟩)
          | (have h0 : 0 < (Pl.ftg ss h ss.length).length := by
               apply Nat.pos_of_ne_zero
               intro e
               have := Pl.bst_none.2 (List.length_eq_zero_iff.1 e)
               rw [HBST.out] at this
               cases this
             have HM := Lib.hid (minfn_any A A9 ss h (Pl.ftg ss h ss.length) c c9 w.heap.size (w.heap.size + 1) r HLF.out (by omega) h0 HBST.out wo HSV.out HH.out HIO.out HI9.out QS.out BH.out)
             have hz : (((Pl.ftg ss h ss.length).length : Int) == 0) = false := by rw [beq_eq_false_iff_ne]; omega
             clear HLF HI9 bS bH h0
             generalize (Pl.ftg ss h ss.length).length = N at *
             go_wp2_with fail
             refine HM.out.mono ?_
             rintro e w9 ⟨rfl, hb9⟩
             go_wp2
             go_ret2
             exact ⟨rfl, hB.trans (hb9.mono hB.size)⟩)
end Go.Proofs.YtghbipipehglfaaDoor
