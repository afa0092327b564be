/- Choose of the document. -/
import Derived.Test.YtghbipipehglfaaDoorC16
namespace Go.Proofs.YtghbipipehglfaaDoor
open Go.RowKit Go.Shelf

theorem rneed_b (s : Pl.Sz) (h : Pl.Hd) (hs : Pl.vsz s = true) (hh : Pl.vh h = true) (w : World) :
    Calls Tryd.prog 50 #[.agg (szA s), .agg (hdA h)] w fun e w' => e = .returned (.tuple #[.agg (a5A (Pl.nd s h)), .int .i64 (Pl.sm s h)]) ∧ Below w.heap.size w w' := rneed_any s h hs hh w

set_option maxRecDepth 100000 in
set_option maxHeartbeats 16000000 in
theorem rChoose_any (A : Option Addr) (ss : List Pl.Sz) (h : Pl.Hd) (c : Nat) (w : World) (c1 : ss.length ≤ c) (c2 : ss.length ≤ 9223372036854775807) (hI : Szs w A ss) :
    Calls Tryd.prog 17 #[.slice A ss.length c, .agg (hdA h)] w fun e w' => e = .returned (.tuple #[.int .i64 (chV ss h : Nat), .int .i64 (chE ss h)]) ∧ Below w.heap.size w w' := by
  have hB0 := ((Below.refl w.heap.size w).alloc (Nat.le_refl _) (.cells (hdA h) 34)).alloc (by simp) (.cells (hdA h) 34)
  have bH := (Blk.new w 34 (hdA h)).alloc (.cells (hdA h) 34)
  have bH0 := Blk.new w 34 (hdA h)
  have bL := Blk.new (w.alloc (.cells (hdA h) 34)) 34 (hdA h)
  simp only [World.size_alloc] at bL
  have hJ : Hds ((w.alloc (.cells (hdA h) 34)).alloc (.cells (hdA h) 34)) (some ⟨w.heap.size + 1, 0, none⟩) [h] := .inr ⟨w.heap.size + 1, 0, rfl, bL.lt, fun k hk => by
    obtain rfl : k = 0 := by simpa using hk
    exact bL.range⟩
  have H1 := Lib.hid (both_any A (some ⟨w.heap.size + 1, 0, none⟩) ss [h] c 1 _ c1 c2 (by simp) (by simp) (hI.below hB0) hJ)
  have r0 := bH0.range
  have hbh := bH.lt
  have fin : (bothE ss [h] ≠ 0 ∧ chE ss h = bothE ss [h] ∧ chV ss h = 0) ∨ (bothE ss [h] = 0 ∧ Pl.vszs ss = true ∧ Pl.vh h = true ∧ ∃ o, Pl.bst ss h ss.length = o ∧ (o = none → chE ss h = 32 ∧ chV ss h = 0) ∧ ∀ r, o = some r → chE ss h = 0 ∧ chV ss h = r) := by
    rcases chE_four ss h with ⟨_, hb, he, hv⟩ | ⟨_, _, hb, he, hv⟩ | ⟨h1, h2, hb, h3, he, hv⟩ | ⟨r, h1, h2, hb, h3, he, hv⟩
    · exact .inl ⟨by rw [hb]; decide, by rw [hb, he], hv⟩
    · exact .inl ⟨by rw [hb]; decide, by rw [hb, he], hv⟩
    · exact .inr ⟨hb, h1, h2, _, h3, fun _ => ⟨he, hv⟩, fun r hr => by cases hr⟩
    · exact .inr ⟨hb, h1, h2, _, h3, fun hr => (by cases hr), fun r' hr => (by cases hr; exact ⟨he, hv⟩)⟩
  rcases fin with ⟨hb, he, hv⟩ | ⟨hb, h1, h2, o, ho, hno, hyes⟩
  · rw [he, hv]
    have hne : (bothE ss [h] != 0) = true := bne_iff_ne.2 hb
    clear hb he hv
    generalize bothE ss [h] = E at *
    go_enter Tryd.func17, Tryd.ntmps17
    go_wp2_with (refine ldm_head r0 rfl _ rfl rfl ?_)
    refine H1.out.mono ?_
    rintro e w1 ⟨rfl, hb1⟩
    go_wp2
    go_ret2
    exact ⟨rfl, hB0.trans (hb1.mono hB0.size)⟩
  · obtain ⟨hs20, hsv⟩ := Pl.vszs_ok h1
    rw [hb] at H1
    have HSV := Lib.hid hsv
    have HH := Lib.hid h2
    have HI := Lib.hid hI
    have HO := Lib.hid ho
    have HNO := Lib.hid hno
    have HYES := Lib.hid hyes
    have HLT := Lib.hid (fun k r (hr : Pl.bst ss h k = some r) => (Pl.bst_lt hr).1)
    clear hb h1 h2 hsv hI ho hno hyes hJ bL bH0
    generalize chE ss h = CE at *
    generalize chV ss h = CV at *
    go_enter Tryd.func17, Tryd.ntmps17
    go_wp2_with (refine ldm_head r0 rfl _ rfl rfl ?_)
    refine H1.out.mono ?_
    rintro e w1 ⟨rfl, hb1⟩
    have bH1 := bH.below hb1 hbh
    have hB1 := hB0.trans (hb1.mono hB0.size)
    clear bH hb1 hB0 H1 r0
    go_wp2
    go_loopw [7, 8, 9, 10, 11, 12, 22, 27] (fun b m _ _ _ _ i _ wr => ∃ k : Nat, k ≤ ss.length ∧ i = .int .i64 k ∧ ((b = .int .i64 (-1) ∧ m = .int .i64 0 ∧ Hid (Pl.bst ss h k = none)) ∨ (∃ r : Nat, b = .int .i64 r ∧ m = .int .i64 (Pl.sm (ss.getD r Pl.zsz) h) ∧ Hid (Pl.bst ss h k = some r))) ∧ Blk wr w.heap.size 34 (hdA h) ∧ Below w.heap.size w wr) (fun _ _ _ _ _ _ i _ _ => ss.length - (intOf i).toNat)
    case atStart => exact ⟨0, Nat.zero_le _, rfl, .inl ⟨rfl, rfl, Lib.hid rfl⟩, bH1, hB1⟩
    case round =>
      clear bH1 hB1
      obtain ⟨k, hk, rfl, hst, bH, hB⟩ := hrel
      obtain ⟨wo, rfl⟩ : ∃ wo, wo = wr := ⟨_, rfl⟩
      by_cases hlt : k < ss.length
      · obtain ⟨bz, oz, rfl, hbz, hcz⟩ : ∃ bb off, A = some ⟨bb, off, none⟩ ∧ bb < w.heap.size ∧ ∀ j, j < ss.length → w.rangeAt bb (off + j * 17) (szA (ss.getD j Pl.zsz)).toList := by
          rcases HI.out with h | ⟨bb, off, he, hb, hc⟩
          · rw [h] at hlt; simp at hlt
          · exact ⟨bb, off, he, hb, hc⟩
        have HCZ := Lib.hid hcz
        have hcs := rangeAt_below (hcz k hlt) hbz hB
        have hsv := Lib.hid (HSV.out k hlt)
        have HBS := Lib.hid (Pl.bst_succ ss h k)
        have HBB : Hid (∀ r, Pl.btr ss h k r = (decide (Pl.sm (ss.getD k Pl.zsz) h < Pl.sm (ss.getD r Pl.zsz) h) || (decide (Pl.sm (ss.getD k Pl.zsz) h = Pl.sm (ss.getD r Pl.zsz) h) && decide ((ss.getD k Pl.zsz).code < (ss.getD r Pl.zsz).code)))) := Lib.hid fun _ => rfl
        have HCK : Hid (Pl.sm (ss.getD k Pl.zsz) h = Pl.sm (ss.getD k Pl.zsz) h) := Lib.hid rfl
        clear hcz
        obtain ⟨E1, hE1⟩ : ∃ E1, E1 = ss.getD k Pl.zsz := ⟨_, rfl⟩
        rw [← hE1] at hcs hsv HBS HBB
        clear HCK
        have HE1 := Lib.hid hE1
        clear hE1
        obtain ⟨b, hb⟩ : ∃ b, Pl.fit E1 h = b := ⟨_, rfl⟩
        have HFT := Lib.hid (fun w => rfits_any E1 h hsv.out HH.out w)
        have HND := Lib.hid (fun w => rneed_b E1 h hsv.out HH.out w)
        rw [hb] at HFT HBS
        clear hb
        obtain ⟨M1, hM1⟩ : ∃ M1, Pl.sm E1 h = M1 := ⟨_, rfl⟩
        rw [hM1] at HND HBB
        have HM1 := Lib.hid hM1
        clear hM1
        have bE : Blk (wo.alloc (.cells (szA E1) 46)) wo.heap.size 46 (szA E1) := Blk.new wo _ _
        have hB3 := hB.alloc hB.size (.cells (szA E1) 46)
        have bH3 := bH.alloc (.cells (szA E1) 46)
        have r1 := bE.range
        have r2 := bH3.range
        clear bH hB
        go_wp2_with (first | refine ldm_size hcs rfl _ rfl rfl ?_ | refine ldm_size r1 rfl _ rfl rfl ?_ | refine ldm_head r2 rfl _ rfl rfl ?_)
        refine (HND.out _).mono ?_
        rintro e w4 ⟨rfl, hb4⟩
        have bE4 := (bE.below hb4 bE.lt).alloc (.cells (a5A (Pl.nd E1 h)) 32)
        have bH4 := (bH3.below hb4 bH3.lt).alloc (.cells (a5A (Pl.nd E1 h)) 32)
        have hB4 := (hB3.trans (hb4.mono hB3.size)).alloc (hB3.trans (hb4.mono hB3.size)).size (.cells (a5A (Pl.nd E1 h)) 32)
        clear bE bH3 hB3 hb4 r1 r2 hcs HND
        have r1 := bE4.range
        have r2 := bH4.range
        have hbe := bE4.lt
        have hbh4 := bH4.lt
        have z1 := fun s : Ext (w4.alloc (.cells (a5A (Pl.nd E1 h)) 32)) => s.cell bE4.code
        rcases hst with ⟨rfl, rfl, hn⟩ | ⟨r, rfl, rfl, hn⟩
        · cases b with
          | false =>
            go_wp2
            refine wp_region_ext (by kernel_rfl) (by kernel_rfl) ?_
            repeat (first | go_big_quiet_skip | (refine qld_size r1 hbe (by kernel_rfl) _ rfl rfl ?_; simp only [Act.put, List.setIfInBounds_toArray, List.set_cons_succ, List.set_cons_zero]) | (refine qld_head r2 hbh4 (by kernel_rfl) _ rfl rfl ?_; simp only [Act.put, List.setIfInBounds_toArray, List.set_cons_succ, List.set_cons_zero]) | go_big_quiet_step ((go_at_call 42; refine calls_ext (HFT.out _))))
            refine wpQuiet_nil ?_
            rintro _ ⟨e, rfl⟩
            have bH5 := bH4.below e.h hbh4
            have hB5 := hB4.trans (e.h.mono hB4.size)
            generalize e.w = W5 at *
            clear r1 r2 bE4 bH4 hB4 e HFT z1
            have HN : Hid (Pl.bst ss h (k + 1) = none) := Lib.hid (by rw [HBS.out, hn.out]; simp)
            go_wp2
            go_roundw
            case rel => exact ⟨k + 1, by omega, by go_num, .inl ⟨rfl, rfl, HN⟩, bH5, hB5⟩
            case measure => simp [intOf]; omega
          | true =>
            go_wp2
            refine wp_region_ext (by kernel_rfl) (by kernel_rfl) ?_
            repeat (first | go_big_quiet_skip | (refine qld_size r1 hbe (by kernel_rfl) _ rfl rfl ?_; simp only [Act.put, List.setIfInBounds_toArray, List.set_cons_succ, List.set_cons_zero]) | (refine qld_head r2 hbh4 (by kernel_rfl) _ rfl rfl ?_; simp only [Act.put, List.setIfInBounds_toArray, List.set_cons_succ, List.set_cons_zero]) | go_big_quiet_step ((go_at_call 42; refine calls_ext (HFT.out _))))
            refine wpQuiet_nil ?_
            rintro _ ⟨e, rfl⟩
            have bH5 := bH4.below e.h hbh4
            have hB5 := hB4.trans (e.h.mono hB4.size)
            generalize e.w = W5 at *
            clear r1 r2 bE4 bH4 hB4 e HFT z1
            have HN : Hid (Pl.bst ss h (k + 1) = some k) := Lib.hid (by rw [HBS.out, hn.out]; simp [Pl.bstep])
            go_wp2
            go_roundw
            case rel => exact ⟨k + 1, by omega, by go_num, .inr ⟨k, rfl, by have := HM1.out; rw [HE1.out] at this; rw [this], HN⟩, bH5, hB5⟩
            case measure => simp [intOf]; omega
        · have hrl := HLT.out k r hn.out
          have hcr : w.cell? ⟨bz, oz + r * 17, none⟩ = some (.int .i64 (ss.getD r Pl.zsz).code) := HCZ.out r (by omega) 0 _ rfl
          have z2 := fun s : Ext (w4.alloc (.cells (a5A (Pl.nd E1 h)) 32)) => (s.cell ((hB4.cell (p := ⟨bz, oz + r * 17, none⟩) hbz).trans hcr) : s.w.cell? ⟨bz, oz + r * 17, none⟩ = some (.int .i64 (ss.getD r Pl.zsz).code))
          have HBR := Lib.hid (HBB.out r)
          have hr0 : decide ((r : Int) < 0) = false := decide_eq_false (by omega)
          clear hcr
          cases b with
          | false =>
            go_wp2
            refine wp_region_ext (by kernel_rfl) (by kernel_rfl) ?_
            repeat (first | go_big_quiet_skip | (refine qld_size r1 hbe (by kernel_rfl) _ rfl rfl ?_; simp only [Act.put, List.setIfInBounds_toArray, List.set_cons_succ, List.set_cons_zero]) | (refine qld_head r2 hbh4 (by kernel_rfl) _ rfl rfl ?_; simp only [Act.put, List.setIfInBounds_toArray, List.set_cons_succ, List.set_cons_zero]) | go_big_quiet_step ((go_at_call 42; refine calls_ext (HFT.out _))))
            refine wpQuiet_nil ?_
            rintro _ ⟨e, rfl⟩
            have bH5 := bH4.below e.h hbh4
            have hB5 := hB4.trans (e.h.mono hB4.size)
            generalize e.w = W5 at *
            clear r1 r2 bE4 bH4 hB4 e HFT z1 z2
            have HN : Hid (Pl.bst ss h (k + 1) = some r) := Lib.hid (by rw [HBS.out, hn.out]; simp)
            go_wp2
            go_roundw
            case rel => exact ⟨k + 1, by omega, by go_num, .inr ⟨r, rfl, rfl, HN⟩, bH5, hB5⟩
            case measure => simp [intOf]; omega
          | true =>
            obtain ⟨Mr, hMr⟩ : ∃ Mr, Pl.sm (ss.getD r Pl.zsz) h = Mr := ⟨_, rfl⟩
            rw [hMr] at HBR ⊢
            have HMR := Lib.hid hMr
            clear hMr
            obtain ⟨Kr, hKr⟩ : ∃ Kr, (ss.getD r Pl.zsz).code = Kr := ⟨_, rfl⟩
            rw [hKr] at HBR z2
            clear hKr
            by_cases g1 : M1 < Mr
            · have HG1 := Lib.hid (decide_eq_true g1)
              have g1d := HG1.out
              clear g1
              go_wp2
              refine wp_region_ext (by kernel_rfl) (by kernel_rfl) ?_
              repeat (first | go_big_quiet_skip | (refine qld_size r1 hbe (by kernel_rfl) _ rfl rfl ?_; simp only [Act.put, List.setIfInBounds_toArray, List.set_cons_succ, List.set_cons_zero]) | (refine qld_head r2 hbh4 (by kernel_rfl) _ rfl rfl ?_; simp only [Act.put, List.setIfInBounds_toArray, List.set_cons_succ, List.set_cons_zero]) | go_big_quiet_step ((go_at_call 42; refine calls_ext (HFT.out _))))
              refine wpQuiet_nil ?_
              rintro _ ⟨e, rfl⟩
              have bH5 := bH4.below e.h hbh4
              have hB5 := hB4.trans (e.h.mono hB4.size)
              generalize e.w = W5 at *
              clear r1 r2 bE4 bH4 hB4 e HFT z1 z2
              have HN : Hid (Pl.bst ss h (k + 1) = some k) := Lib.hid (by rw [HBS.out, hn.out]; have h9 : Pl.btr ss h k r = true := (by rw [HBR.out, HG1.out]; rfl); simp [Pl.bstep, h9])
              go_wp2
              go_roundw
              case rel => exact ⟨k + 1, by omega, by go_num, .inr ⟨k, rfl, by have := HM1.out; rw [HE1.out] at this; rw [this], HN⟩, bH5, hB5⟩
              case measure => simp [intOf]; omega
            · by_cases g2 : M1 = Mr
              · by_cases g3 : E1.code < Kr
                · have HG := Lib.hid (decide_eq_false g1)
                  have g1d := HG.out
                  have HG2 := Lib.hid (decide_eq_true g2)
                  have g2b : (M1 == Mr) = true := by simpa using g2
                  have HG3 := Lib.hid (decide_eq_true g3)
                  have g3d := HG3.out
                  clear g3
                  clear g2 g1
                  go_wp2
                  refine wp_region_ext (by kernel_rfl) (by kernel_rfl) ?_
                  repeat (first | go_big_quiet_skip | (refine qld_size r1 hbe (by kernel_rfl) _ rfl rfl ?_; simp only [Act.put, List.setIfInBounds_toArray, List.set_cons_succ, List.set_cons_zero]) | (refine qld_head r2 hbh4 (by kernel_rfl) _ rfl rfl ?_; simp only [Act.put, List.setIfInBounds_toArray, List.set_cons_succ, List.set_cons_zero]) | go_big_quiet_step ((go_at_call 42; refine calls_ext (HFT.out _))))
                  refine wpQuiet_nil ?_
                  rintro _ ⟨e, rfl⟩
                  have bH5 := bH4.below e.h hbh4
                  have hB5 := hB4.trans (e.h.mono hB4.size)
                  generalize e.w = W5 at *
                  clear r1 r2 bE4 bH4 hB4 e HFT z1 z2
                  have HN : Hid (Pl.bst ss h (k + 1) = some k) := Lib.hid (by rw [HBS.out, hn.out]; have h9 : Pl.btr ss h k r = true := (by rw [HBR.out, HG.out, HG2.out, HG3.out]; rfl); simp [Pl.bstep, h9])
                  go_wp2
                  go_roundw
                  case rel => exact ⟨k + 1, by omega, by go_num, .inr ⟨k, rfl, by have := HM1.out; rw [HE1.out] at this; rw [this], HN⟩, bH5, hB5⟩
                  case measure => simp [intOf]; omega
                · have HG := Lib.hid (decide_eq_false g1)
                  have g1d := HG.out
                  have HG2 := Lib.hid (decide_eq_true g2)
                  have g2b : (M1 == Mr) = true := by simpa using g2
                  have HG3 := Lib.hid (decide_eq_false g3)
                  have g3d := HG3.out
                  clear g3
                  clear g2 g1
                  go_wp2
                  refine wp_region_ext (by kernel_rfl) (by kernel_rfl) ?_
                  repeat (first | go_big_quiet_skip | (refine qld_size r1 hbe (by kernel_rfl) _ rfl rfl ?_; simp only [Act.put, List.setIfInBounds_toArray, List.set_cons_succ, List.set_cons_zero]) | (refine qld_head r2 hbh4 (by kernel_rfl) _ rfl rfl ?_; simp only [Act.put, List.setIfInBounds_toArray, List.set_cons_succ, List.set_cons_zero]) | go_big_quiet_step ((go_at_call 42; refine calls_ext (HFT.out _))))
                  refine wpQuiet_nil ?_
                  rintro _ ⟨e, rfl⟩
                  have bH5 := bH4.below e.h hbh4
                  have hB5 := hB4.trans (e.h.mono hB4.size)
                  generalize e.w = W5 at *
                  clear r1 r2 bE4 bH4 hB4 e HFT z1 z2
                  have HN : Hid (Pl.bst ss h (k + 1) = some r) := Lib.hid (by rw [HBS.out, hn.out]; have h9 : Pl.btr ss h k r = false := (by rw [HBR.out, HG.out, HG2.out, HG3.out]; rfl); simp [Pl.bstep, h9])
                  go_wp2
                  go_roundw
                  case rel => exact ⟨k + 1, by omega, by go_num, .inr ⟨r, rfl, by rw [HMR.out], HN⟩, bH5, hB5⟩
                  case measure => simp [intOf]; omega
              · have HG := Lib.hid (decide_eq_false g1)
                have g1d := HG.out
                have HG2 := Lib.hid (decide_eq_false g2)
                have g2b : (M1 == Mr) = false := by simpa using g2
                clear g2 g1
                go_wp2
                refine wp_region_ext (by kernel_rfl) (by kernel_rfl) ?_
                repeat (first | go_big_quiet_skip | (refine qld_size r1 hbe (by kernel_rfl) _ rfl rfl ?_; simp only [Act.put, List.setIfInBounds_toArray, List.set_cons_succ, List.set_cons_zero]) | (refine qld_head r2 hbh4 (by kernel_rfl) _ rfl rfl ?_; simp only [Act.put, List.setIfInBounds_toArray, List.set_cons_succ, List.set_cons_zero]) | go_big_quiet_step ((go_at_call 42; refine calls_ext (HFT.out _))))
                refine wpQuiet_nil ?_
                rintro _ ⟨e, rfl⟩
                have bH5 := bH4.below e.h hbh4
                have hB5 := hB4.trans (e.h.mono hB4.size)
                generalize e.w = W5 at *
                clear r1 r2 bE4 bH4 hB4 e HFT z1 z2
                have HN : Hid (Pl.bst ss h (k + 1) = some r) := Lib.hid (by rw [HBS.out, hn.out]; have h9 : Pl.btr ss h k r = false := (by rw [HBR.out, HG.out, HG2.out]; rfl); simp [Pl.bstep, h9])
                go_wp2
                go_roundw
                case rel => exact ⟨k + 1, by omega, by go_num, .inr ⟨r, rfl, by rw [HMR.out], HN⟩, bH5, hB5⟩
                case measure => simp [intOf]; omega
      · obtain rfl : k = ss.length := by omega
        rcases hst with ⟨rfl, rfl, hn⟩ | ⟨r, rfl, rfl, hn⟩
        · have HN := Lib.hid (HNO.out (by rw [← HO.out]; exact hn.out))
          go_wp2
          go_ret2
          obtain ⟨hE, hV⟩ := HN.out
          subst hE
          subst hV
          exact ⟨rfl, hB⟩
        · have HN := Lib.hid (HYES.out r (by rw [← HO.out]; exact hn.out))
          go_wp2
          go_ret2
          obtain ⟨hE, hV⟩ := HN.out
          subst hE
          subst hV
          exact ⟨rfl, hB⟩
end Go.Proofs.YtghbipipehglfaaDoor
