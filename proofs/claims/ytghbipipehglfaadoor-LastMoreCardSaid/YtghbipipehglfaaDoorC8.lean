/- The document's Apart; the law LastCovers. -/
import Derived.Test.YtghbipipehglfaaDoorC7
namespace Go.Proofs.YtghbipipehglfaaDoor
open Go.RowKit Go.Shelf

set_option maxRecDepth 100000 in
set_option maxHeartbeats 8000000 in
theorem rApart_any (A B Al : Option Addr) (ss : List Pl.Sz) (hs : List Pl.Hd) (l : List Int) (c d cl : Nat) (w : World) (c1 : ss.length ≤ c) (c2 : ss.length ≤ 9223372036854775807) (c3 : hs.length ≤ d) (c4 : hs.length ≤ 9223372036854775807) (c5 : l.length ≤ cl)
    (hmax : l.length ≤ 9223372036854775807) (hI : Szs w A ss) (hJ : Hds w B hs) (hL : Ints w Al l) :
    Calls Tryd.prog 22 #[.slice A ss.length c, .slice B hs.length d, .slice Al l.length cl] w fun e w' => e = .returned (.tuple #[.bool (apV ss hs l), .int .i64 (apE ss hs l)]) ∧ Below w.heap.size w w' := by
  have H1 := Lib.hid (both_any A B ss hs c d w c1 c2 c3 c4 hI hJ)
  rcases apE_three ss hs l with ⟨hb, he, hv⟩ | ⟨hb, hm, he, hv⟩ | ⟨m, hb, hm, he, hv⟩
  · rw [he, hv]
    have hne : (bothE ss hs != 0) = true := bne_iff_ne.2 hb
    clear hb he hv
    generalize bothE ss hs = E at *
    go_enter Tryd.func22, Tryd.ntmps22
    go_wp2_with (go_at_call 41; refine H1.out.mono ?_; rintro e w1 ⟨rfl, hb1⟩)
    go_ret2
    exact ⟨rfl, hb1⟩
  · obtain ⟨⟨s1, s2⟩, ⟨h1, h2⟩⟩ := bothE_ok hb
    rw [he, hv]
    rw [hb] at H1
    have H2 := Lib.hid (fun (w' : World) (hbb : Below w.heap.size w w') => listed_any Al l cl hs.length c5 hmax w' (hL.below hbb))
    rw [hm] at H2
    clear hb he hv hm hI hJ hL s2 h2
    go_enter Tryd.func22, Tryd.ntmps22
    go_wp2_with (first | (go_at_call 41; refine H1.out.mono ?_; rintro e w1 ⟨rfl, hb1⟩) | (go_at_call 55; refine (H2.out _ hb1).mono ?_; rintro e w' ⟨rfl, hw'⟩; obtain rfl : w1 = w' := hw'.symm))
    go_ret2
    exact ⟨rfl, hb1⟩
  · obtain ⟨⟨s1, s2⟩, ⟨h1, h2⟩⟩ := bothE_ok hb
    rw [he, hv]
    rw [hb] at H1
    have H2 := Lib.hid (fun (w' : World) (hbb : Below w.heap.size w w') => listed_any Al l cl hs.length c5 hmax w' (hL.below hbb))
    rw [hm] at H2
    have HAF := Lib.hid (fun i j q (hi : i < l.length) (hj : j < i) (hq : q < ss.length) => Pl.ap_false hm h1 hi hj hq)
    have HAT := Lib.hid (Pl.ap_true (ss := ss) hm h1)
    have HBD := Lib.hid (getD_bd hm)
    have HSV := Lib.hid s2
    have HHV := Lib.hid h2
    have HI := Lib.hid hI
    have HJ := Lib.hid hJ
    have HL := Lib.hid hL
    change Hid (∀ i j q, i < l.length → j < i → q < ss.length → Pl.two ss hs q (l.getD i 0).toNat (l.getD j 0).toNat = true → Pl.apm (sets ss hs) ss.length m = false) at HAF
    change Hid ((∀ i, i < l.length → ∀ j, j < i → ∀ q, q < ss.length → Pl.two ss hs q (l.getD i 0).toNat (l.getD j 0).toNat = false) → Pl.apm (sets ss hs) ss.length m = true) at HAT
    generalize Pl.apm (sets ss hs) ss.length m = R at *
    clear hb he hv hm hI hJ hL s2 h2
    go_enter Tryd.func22, Tryd.ntmps22
    go_wp2_with (first | (go_at_call 41; refine H1.out.mono ?_; rintro e w1 ⟨rfl, hb1⟩) | (go_at_call 55; refine (H2.out _ hb1).mono ?_; rintro e w' ⟨rfl, hw'⟩; obtain rfl : w1 = w' := hw'.symm))
    clear H1 H2
    go_loopw [9, 10, 12, 14, 28] (fun _ _ _ _ i wr => ∃ k : Nat, k ≤ l.length ∧ i = .int .i64 k ∧ Hid (∀ i, i < k → ∀ j, j < i → ∀ q, q < ss.length → Pl.two ss hs q (l.getD i 0).toNat (l.getD j 0).toNat = false) ∧ Below w.heap.size w wr) (fun _ _ _ _ i _ => l.length - (intOf i).toNat)
    case atStart => exact ⟨0, Nat.zero_le _, rfl, Lib.hid (fun i hi => absurd hi (Nat.not_lt_zero i)), hb1⟩
    case round =>
      clear hb1
      obtain ⟨k, hk, rfl, hno, hB⟩ := hrel
      obtain ⟨wo, rfl⟩ : ∃ wo, wo = wr := ⟨_, rfl⟩
      by_cases hlt : k < l.length
      · obtain ⟨bl, ol, rfl, hbl, hcl⟩ : ∃ bb off, Al = some ⟨bb, off, none⟩ ∧ bb < w.heap.size ∧ ∀ j, j < l.length → w.cell? ⟨bb, off + j, none⟩ = some (.int .i64 (l.getD j 0)) := by
          rcases HL.out with h | ⟨bb, off, he, h1, hc⟩
          · rw [h] at hlt; simp at hlt
          · exact ⟨bb, off, he, h1, hc⟩
        have HCL := Lib.hid hcl
        have hck : wo.cell? ⟨bl, ol + k, none⟩ = some (.int .i64 (l.getD k 0)) := (hB.cell (p := ⟨bl, ol + k, none⟩) hbl).trans (hcl k hlt)
        obtain ⟨g0, g1⟩ := HBD.out k hlt
        have hkc : k ≤ cl := by omega
        obtain ⟨x, hx⟩ := Int.eq_ofNat_of_zero_le g0
        rw [hx] at hck g1
        have hxn : x < hs.length := by omega
        have HX := Lib.hid hx
        clear hcl hx g0 g1
        go_wp2
        go_loopw [12, 14, 37] (fun _ _ i wr => ∃ j : Nat, j ≤ k ∧ i = .int .i64 j ∧ Hid (∀ i, i < j → ∀ q, q < ss.length → Pl.two ss hs q x (l.getD i 0).toNat = false) ∧ Below w.heap.size w wr) (fun _ _ i _ => k - (intOf i).toNat)
        case atStart => exact ⟨0, Nat.zero_le _, rfl, Lib.hid (fun i hi => absurd hi (Nat.not_lt_zero i)), hB⟩
        case round =>
          clear hck hB
          obtain ⟨j, hj, rfl, hno2, hB⟩ := hrel
          obtain ⟨wp, rfl⟩ : ∃ wp, wp = wr := ⟨_, rfl⟩
          by_cases hjk : j < k
          · have hcj : wp.cell? ⟨bl, ol + j, none⟩ = some (.int .i64 (l.getD j 0)) := (hB.cell (p := ⟨bl, ol + j, none⟩) hbl).trans (HCL.out j (by omega))
            obtain ⟨g0, g1⟩ := HBD.out j (by omega)
            obtain ⟨y, hy⟩ := Int.eq_ofNat_of_zero_le g0
            rw [hy] at hcj g1
            have hyn : y < hs.length := by omega
            have HY := Lib.hid hy
            clear hy g0 g1
            go_wp2
            go_loopw [14, 43] (fun _ i wr => ∃ q : Nat, q ≤ ss.length ∧ i = .int .i64 q ∧ Hid (∀ i, i < q → Pl.two ss hs i x y = false) ∧ Below w.heap.size w wr) (fun _ i _ => ss.length - (intOf i).toNat)
            case atStart => exact ⟨0, Nat.zero_le _, rfl, Lib.hid (fun i hi => absurd hi (Nat.not_lt_zero i)), hB⟩
            case round =>
              clear hcj hB
              obtain ⟨q, hq, rfl, hno3, hB⟩ := hrel
              obtain ⟨wq, rfl⟩ : ∃ wq, wq = wr := ⟨_, rfl⟩
              by_cases hqn : q < ss.length
              · obtain ⟨bz, oz, rfl, hbz, hcz⟩ : ∃ bb off, A = some ⟨bb, off, none⟩ ∧ bb < w.heap.size ∧ ∀ j, j < ss.length → w.rangeAt bb (off + j * 17) (szA (ss.getD j Pl.zsz)).toList := by
                  rcases HI.out with h | ⟨bb, off, he, hb, hc⟩
                  · rw [h] at hqn; simp at hqn
                  · exact ⟨bb, off, he, hb, hc⟩
                obtain ⟨by_, oy, rfl, hby, hcy⟩ : ∃ bb off, B = some ⟨bb, off, none⟩ ∧ bb < w.heap.size ∧ ∀ j, j < hs.length → w.rangeAt bb (off + j * 6) (hdA (hs.getD j zhd)).toList := by
                  rcases HJ.out with h | ⟨bb, off, he, hb, hc⟩
                  · rw [h] at hxn; simp at hxn
                  · exact ⟨bb, off, he, hb, hc⟩
                have hcs := rangeAt_below (hcz q hqn) hbz hB
                have hsv := Lib.hid (HSV.out q hqn)
                have hvx := Lib.hid (HHV.out x hxn)
                have hvy := Lib.hid (HHV.out y hyn)
                have HTW : Hid (Pl.two ss hs q x y = (Pl.fit (ss.getD q Pl.zsz) (hs.getD x zhd) && Pl.fit (ss.getD q Pl.zsz) (hs.getD y zhd))) := Lib.hid rfl
                have hbo := hB.size
                have bE : Blk (wq.alloc (.cells (szA (ss.getD q Pl.zsz)) 46)) wq.heap.size 46 (szA (ss.getD q Pl.zsz)) := Blk.new wq _ _
                have hB1 := hB.alloc hB.size (.cells (szA (ss.getD q Pl.zsz)) 46)
                have hxr := rangeAt_below (hcy x hxn) hby hB1
                have hyr := rangeAt_below (hcy y hyn) hby hB1
                clear hcz hcy
                generalize ss.getD q Pl.zsz = E1 at *
                generalize hs.getD x zhd = X1 at *
                generalize hs.getD y zhd = Y1 at *
                have r1 := bE.range
                have hbe := bE.lt
                have hbby : by_ < (wq.alloc (.cells (szA E1) 46)).heap.size := by simp; omega
                obtain ⟨b1, hb1⟩ : ∃ b, Pl.fit E1 X1 = b := ⟨_, rfl⟩
                obtain ⟨b2, hb2⟩ : ∃ b, Pl.fit E1 Y1 = b := ⟨_, rfl⟩
                have HF1 := Lib.hid (fun w => rfits_any E1 X1 hsv.out hvx.out w)
                have HF2 := Lib.hid (fun w => rfits_any E1 Y1 hsv.out hvy.out w)
                rw [hb1] at HF1 HTW
                rw [hb2] at HF2 HTW
                clear hb1 hb2 hB bE hsv hvx hvy
                cases b1 with
                | false =>
                  go_wp2_with (refine ldm_size hcs rfl _ rfl rfl ?_)
                  refine wp_region_ext (by kernel_rfl) (by kernel_rfl) ?_
                  repeat (first | go_big_quiet_skip | (refine qld_size r1 hbe (by kernel_rfl) _ rfl rfl ?_; simp only [Act.put, List.setIfInBounds_toArray, List.set_cons_succ, List.set_cons_zero]) | (refine qld_head hxr hbby (by kernel_rfl) _ rfl rfl ?_; simp only [Act.put, List.setIfInBounds_toArray, List.set_cons_succ, List.set_cons_zero]) | (refine qld_head hyr hbby (by kernel_rfl) _ rfl rfl ?_; simp only [Act.put, List.setIfInBounds_toArray, List.set_cons_succ, List.set_cons_zero]) | go_big_quiet_step ((go_at_call 42; first | (with_reducible refine calls_ext (HF1.out _)) | (with_reducible refine calls_ext (HF2.out _)))))
                  refine wpQuiet_nil ?_
                  rintro _ ⟨e, rfl⟩
                  have hB2 := hB1.trans (e.h.mono hB1.size)
                  generalize e.w = W2 at *
                  clear hcs hxr hyr r1 hB1 e HF1 HF2
                  have HN : Hid (∀ i, i < q + 1 → Pl.two ss hs i x y = false) := Lib.hid (fun i hi => by
                    rcases Nat.lt_succ_iff_lt_or_eq.1 hi with h | rfl
                    · exact hno3.out i h
                    · rw [HTW.out]; rfl)
                  go_wp2
                  go_roundw
                  case rel => exact ⟨q + 1, by omega, by go_num, HN, hB2⟩
                  case measure => simp [intOf]; omega
                | true =>
                  cases b2 with
                  | false =>
                    go_wp2_with (refine ldm_size hcs rfl _ rfl rfl ?_)
                    refine wp_region_ext (by kernel_rfl) (by kernel_rfl) ?_
                    repeat (first | go_big_quiet_skip | (refine qld_size r1 hbe (by kernel_rfl) _ rfl rfl ?_; simp only [Act.put, List.setIfInBounds_toArray, List.set_cons_succ, List.set_cons_zero]) | (refine qld_head hxr hbby (by kernel_rfl) _ rfl rfl ?_; simp only [Act.put, List.setIfInBounds_toArray, List.set_cons_succ, List.set_cons_zero]) | (refine qld_head hyr hbby (by kernel_rfl) _ rfl rfl ?_; simp only [Act.put, List.setIfInBounds_toArray, List.set_cons_succ, List.set_cons_zero]) | go_big_quiet_step ((go_at_call 42; first | (with_reducible refine calls_ext (HF1.out _)) | (with_reducible refine calls_ext (HF2.out _)))))
                    refine wpQuiet_nil ?_
                    rintro _ ⟨e, rfl⟩
                    have hB2 := hB1.trans (e.h.mono hB1.size)
                    generalize e.w = W2 at *
                    clear hcs hxr hyr r1 hB1 e HF1 HF2
                    have HN : Hid (∀ i, i < q + 1 → Pl.two ss hs i x y = false) := Lib.hid (fun i hi => by
                      rcases Nat.lt_succ_iff_lt_or_eq.1 hi with h | rfl
                      · exact hno3.out i h
                      · rw [HTW.out]; rfl)
                    go_wp2
                    go_roundw
                    case rel => exact ⟨q + 1, by omega, by go_num, HN, hB2⟩
                    case measure => simp [intOf]; omega
                  | true =>
                    go_wp2_with (refine ldm_size hcs rfl _ rfl rfl ?_)
                    refine wp_region_ext (by kernel_rfl) (by kernel_rfl) ?_
                    repeat (first | go_big_quiet_skip | (refine qld_size r1 hbe (by kernel_rfl) _ rfl rfl ?_; simp only [Act.put, List.setIfInBounds_toArray, List.set_cons_succ, List.set_cons_zero]) | (refine qld_head hxr hbby (by kernel_rfl) _ rfl rfl ?_; simp only [Act.put, List.setIfInBounds_toArray, List.set_cons_succ, List.set_cons_zero]) | (refine qld_head hyr hbby (by kernel_rfl) _ rfl rfl ?_; simp only [Act.put, List.setIfInBounds_toArray, List.set_cons_succ, List.set_cons_zero]) | go_big_quiet_step ((go_at_call 42; first | (with_reducible refine calls_ext (HF1.out _)) | (with_reducible refine calls_ext (HF2.out _)))))
                    refine wpQuiet_nil ?_
                    rintro _ ⟨e, rfl⟩
                    have hB2 := hB1.trans (e.h.mono hB1.size)
                    generalize e.w = W2 at *
                    clear hcs hxr hyr r1 hB1 e HF1 HF2
                    have HR : Hid (R = false) := Lib.hid (HAF.out k j q hlt hjk hqn (by rw [HX.out, HY.out, Int.toNat_natCast, Int.toNat_natCast, HTW.out]; rfl))
                    go_wp2
                    go_ret2
                    exact ⟨by rw [HR.out]; rfl, hB2⟩
              · obtain rfl : q = ss.length := by omega
                have hN : Hid (∀ i, i < j + 1 → ∀ q, q < ss.length → Pl.two ss hs q x (l.getD i 0).toNat = false) := Lib.hid (fun i hi => by
                  rcases Nat.lt_succ_iff_lt_or_eq.1 hi with h | rfl
                  · exact hno2.out i h
                  · intro q hq; rw [HY.out]; exact hno3.out q hq)
                go_wp2
                go_roundw
                case rel => exact ⟨j + 1, by omega, by go_num, hN, hB⟩
                case measure => simp [intOf]; omega
          · obtain rfl : j = k := by omega
            have hN : Hid (∀ i, i < j + 1 → ∀ t, t < i → ∀ q, q < ss.length → Pl.two ss hs q (l.getD i 0).toNat (l.getD t 0).toNat = false) := Lib.hid (fun i hi => by
              rcases Nat.lt_succ_iff_lt_or_eq.1 hi with h | rfl
              · exact hno.out i h
              · rw [HX.out]; exact hno2.out)
            go_wp2
            go_roundw
            case rel => exact ⟨j + 1, by omega, by go_num, hN, hB⟩
            case measure => simp [intOf]; omega
      · obtain rfl : k = l.length := by omega
        have HT : Hid (R = true) := Lib.hid (HAT.out hno.out)
        go_wp2
        go_ret2
        exact ⟨by rw [HT.out]; rfl, hB⟩
end Go.Proofs.YtghbipipehglfaaDoor
