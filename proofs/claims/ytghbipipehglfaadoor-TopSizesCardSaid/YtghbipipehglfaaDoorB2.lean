/- The program's test of lists of sizes and heads. -/
import Derived.Test.YtghbipipehglfaaDoorB1
namespace Go.Proofs.YtghbipipehglfaaDoor
open Go.RowKit Go.Shelf
theorem size_num {s : Pl.Sz} (h : Pl.vsz s = true) : 1 ≤ s.code ∧ s.code ≤ 1000000000 := by
  unfold Pl.vsz at h
  rw [Bool.and_eq_true, Bool.and_eq_true, Pl.inB_true, Pl.inB_true] at h
  exact h.2.1
theorem head_num {h : Pl.Hd} (hh : Pl.vh h = true) : 1 ≤ h.num ∧ h.num ≤ 1000000000 := (Pl.vh_true.1 hh).2

theorem num_size_wf {s : Pl.Sz} (h : Pl.vsz s = true) : (Lit.int .i64 s.code).wf = true := by
  obtain ⟨h1, h2⟩ := size_num h
  exact WalkArith.wf_i64 (by omega)
set_option maxHeartbeats 1000000 in
theorem num_size (s : Pl.Sz) (w : World) :
    Calls Tryd.prog 33 #[.agg (szA s)] w fun e w' => e = .returned (.int .i64 s.code) ∧ Below w.heap.size w w' := by
  have hB0 := (Below.refl w.heap.size w).alloc (Nat.le_refl _) (.cells (szA s) 46)
  have bS := Blk.new w 46 (szA s)
  have q1 := bS.cell 0
  go_enter Tryd.func33, Tryd.ntmps33
  go_wp2
  go_ret
  exact ⟨rfl, hB0⟩

set_option maxRecDepth 100000 in
set_option maxHeartbeats 8000000 in
theorem vlist_size (A : Option Addr) (l : List Pl.Sz) (c : Nat) (w : World) (hI : Szs w A l) :
    Calls Tryd.prog 31 #[.slice A l.length c, .int .i64 20, .func (.func 32) #[] #[], .func (.func 33) #[] #[]] w fun e w' => e = .returned (.bool (Pl.vszs l)) ∧ Below w.heap.size w w' := by
  have HV : Hid (Pl.vszs l = (decide (l.length ≤ 20) && Pl.vl Pl.vsz Pl.Sz.code l [])) := Lib.hid rfl
  generalize Pl.vszs l = V at *
  have HI := Lib.hid hI
  clear hI
  go_enter Tryd.func31, Tryd.ntmps31
  by_cases hlen : (20 : Int) < (l.length : Int)
  · have HL : Hid (V = false) := Lib.hid (by rw [HV.out]; simp; omega)
    go_wp2
    go_ret
    exact ⟨by rw [HL.out]; rfl, Below.refl _ _⟩
  · have HL : Hid (Pl.vl Pl.vsz Pl.Sz.code (l.drop 0) [] = V) := Lib.hid (by rw [HV.out, List.drop_zero, decide_eq_true (by omega)]; rfl)
    have hlen' : l.length ≤ 20 := by omega
    clear HV
    have hB0 := (Below.refl w.heap.size w).alloc (Nat.le_refl _) (.map #[] 0)
    have hS0 := Seen.made w
    have hmm := @run_makeMap Tryd.prog
    go_wp2
    clear hmm
    go_loopw [11, 19] (fun _ i wr => ∃ k : Nat, ∃ s : List Int, k ≤ l.length ∧ i = .int .i64 k ∧ Seen wr w.heap.size k s ∧ Hid (Pl.vl Pl.vsz Pl.Sz.code (l.drop k) s = V) ∧ Below w.heap.size w wr) (fun _ i _ => l.length - (intOf i).toNat)
    case atStart => exact ⟨0, [], Nat.zero_le _, rfl, hS0, HL, hB0⟩
    case round =>
      clear hS0 hB0 HL
      obtain ⟨k, s, hk, rfl, hS, hvl, hB⟩ := hrel
      obtain ⟨wo, rfl⟩ : ∃ wo, wo = wr := ⟨_, rfl⟩
      by_cases hlt : k < l.length
      · obtain ⟨bz, oz, rfl, hbz, hcz⟩ : ∃ bb off, A = some ⟨bb, off, none⟩ ∧ bb < w.heap.size ∧ ∀ j, j < l.length → w.rangeAt bb (off + j * 17) (szA (l.getD j Pl.zsz)).toList := by
          rcases HI.out with h | ⟨bb, off, he, hb, hc⟩
          · rw [h] at hlt; simp at hlt
          · exact ⟨bb, off, he, hb, hc⟩
        have hck := rangeAt_below (hcz k hlt) hbz hB
        have hvl2 := Lib.hid (hvl.out.symm.trans (Pl.vl_step (z := Pl.zsz) hlt))
        clear hcz hvl
        generalize l.getD k Pl.zsz = E at *
        have bE : Blk (wo.alloc (.cells (szA E) 46)) wo.heap.size 46 (szA E) := Blk.new wo _ _
        have hB1 := hB.alloc hB.size (.cells (szA E) 46)
        have hS1 := hS.below ((Below.refl wo.heap.size wo).alloc (Nat.le_refl _) (.cells (szA E) 46))
        obtain ⟨v, hv⟩ : ∃ v, Pl.vsz E = v := ⟨_, rfl⟩
        rw [hv] at hvl2
        have HVV := Lib.hid hv
        go_wp2_with (refine ldm_size hck rfl _ rfl rfl ?_)
        refine (vsize_b E v HVV.out _).mono ?_
        rintro e w1 ⟨rfl, hb1⟩
        have bE1 := bE.below hb1 bE.lt
        have hS2 := hS1.below hb1
        have hB2 := hB1.trans (hb1.mono hB1.size)
        clear hS1 hB1 hb1 bE hS hB hck
        have hr1 := bE1.range
        have hbz1 := bE1.lt
        generalize wo.heap.size = be at *
        cases v with
        | false =>
          have HF : Hid (V = false) := Lib.hid (by rw [hvl2.out]; rfl)
          clear hvl2
          go_wp2
          go_ret
          exact ⟨by rw [HF.out]; rfl, hB2⟩
        | true =>
          have hwf := Lib.hid (num_size_wf hv)
          obtain ⟨m, hm⟩ : ∃ m, decide (E.code ∈ s) = m := ⟨_, rfl⟩
          have hlk : ∀ w2, Below w1.heap.size w1 w2 → (Instr.lookup 94 (.map (some w.heap.size)) (.int .i64 E.code) false).run Tryd.prog w2 = .ok (.bool m) w2 := fun w2 hb => by
            rw [(hS2.below hb).look hwf.out, hm]
          have hvl3 : Hid (V = (!m && Pl.vl Pl.vsz Pl.Sz.code (l.drop (k + 1)) (E.code :: s))) := Lib.hid (by rw [hvl2.out, ← hm]; rfl)
          have HLK := Lib.hid hlk
          clear hvl2 hm hlk hv
          go_wp2_with (refine ldm_size hr1 rfl _ rfl rfl ?_)
          refine (num_size E _).mono ?_
          rintro e w2 ⟨rfl, hb2⟩
          have hlk := HLK.out w2 hb2
          have bE2 := bE1.below hb2 hbz1
          have hS3 := hS2.below hb2
          have hB3 := hB2.trans (hb2.mono hB2.size)
          have hr2 := bE2.range
          clear HLK hS2 hB2 hb2 hr1
          cases m with
          | true =>
            have HF : Hid (V = false) := Lib.hid (by rw [hvl3.out]; rfl)
            go_wp2
            go_ret
            exact ⟨by rw [HF.out]; rfl, hB3⟩
          | false =>
            have hvl4 : Hid (Pl.vl Pl.vsz Pl.Sz.code (l.drop (k + 1)) (E.code :: s) = V) := Lib.hid (by rw [hvl3.out]; rfl)
            go_wp2_with (refine ldm_size hr2 rfl _ rfl rfl ?_)
            refine (num_size E _).mono ?_
            rintro e w3 ⟨rfl, hb3⟩
            have hS4 := hS3.below hb3
            have hB4 := hB3.trans (hb3.mono hB3.size)
            obtain ⟨w4, hrun, hS5, hg⟩ := hS4.store (by unfold maxLen; omega) hwf.out
            have hB5 := hB4.grown hg hB4.size (fun k e => by cases e; exact Nat.le_refl _)
            clear hlk hS4 hB4 hg hb3 bE2 bE1 hr2 hS3 hB3
            go_wp2
            go_roundw
            case rel => exact ⟨k + 1, _, by omega, by go_num, hS5, hvl4, hB5⟩
            case measure => simp [intOf]; omega
      · obtain rfl : k = l.length := by omega
        have HT : Hid (V = true) := Lib.hid (by rw [← hvl.out, Pl.vl_end])
        go_wp2
        go_ret
        exact ⟨by rw [HT.out]; rfl, hB⟩

set_option maxRecDepth 100000 in
set_option maxHeartbeats 1000000 in
theorem valid_sizes (A : Option Addr) (l : List Pl.Sz) (c : Nat) (w : World) (hI : Szs w A l) :
    Calls Tryd.prog 9 #[.slice A l.length c] w fun e w' => e = .returned (.bool (Pl.vszs l)) ∧ Below w.heap.size w w' := by
  have HV := Lib.hid (vlist_size A l c w hI)
  generalize Pl.vszs l = V at *
  go_enter Tryd.func9, Tryd.ntmps9
  go_wp2_with fail
  refine HV.out.mono ?_
  rintro e w1 ⟨rfl, hb⟩
  go_wp2
  go_ret
  exact ⟨rfl, hb⟩

theorem num_head_wf {s : Pl.Hd} (h : Pl.vh s = true) : (Lit.int .i64 s.num).wf = true := by
  obtain ⟨h1, h2⟩ := head_num h
  exact WalkArith.wf_i64 (by omega)
set_option maxHeartbeats 1000000 in
theorem num_head (s : Pl.Hd) (w : World) :
    Calls Tryd.prog 37 #[.agg (hdA s)] w fun e w' => e = .returned (.int .i64 s.num) ∧ Below w.heap.size w w' := by
  have hB0 := (Below.refl w.heap.size w).alloc (Nat.le_refl _) (.cells (hdA s) 34)
  have bS := Blk.new w 34 (hdA s)
  have q1 := bS.cell 0
  go_enter Tryd.func37, Tryd.ntmps37
  go_wp2
  go_ret
  exact ⟨rfl, hB0⟩

set_option maxRecDepth 100000 in
set_option maxHeartbeats 8000000 in
theorem vlist_head (A : Option Addr) (l : List Pl.Hd) (c : Nat) (w : World) (hI : Hds w A l) :
    Calls Tryd.prog 35 #[.slice A l.length c, .int .i64 40, .func (.func 36) #[] #[], .func (.func 37) #[] #[]] w fun e w' => e = .returned (.bool (Pl.vhds l)) ∧ Below w.heap.size w w' := by
  have HV : Hid (Pl.vhds l = (decide (l.length ≤ 40) && Pl.vl Pl.vh Pl.Hd.num l [])) := Lib.hid rfl
  generalize Pl.vhds l = V at *
  have HI := Lib.hid hI
  clear hI
  go_enter Tryd.func35, Tryd.ntmps35
  by_cases hlen : (40 : Int) < (l.length : Int)
  · have HL : Hid (V = false) := Lib.hid (by rw [HV.out]; simp; omega)
    go_wp2
    go_ret
    exact ⟨by rw [HL.out]; rfl, Below.refl _ _⟩
  · have HL : Hid (Pl.vl Pl.vh Pl.Hd.num (l.drop 0) [] = V) := Lib.hid (by rw [HV.out, List.drop_zero, decide_eq_true (by omega)]; rfl)
    have hlen' : l.length ≤ 40 := by omega
    clear HV
    have hB0 := (Below.refl w.heap.size w).alloc (Nat.le_refl _) (.map #[] 0)
    have hS0 := Seen.made w
    have hmm := @run_makeMap Tryd.prog
    go_wp2
    clear hmm
    go_loopw [11, 19] (fun _ i wr => ∃ k : Nat, ∃ s : List Int, k ≤ l.length ∧ i = .int .i64 k ∧ Seen wr w.heap.size k s ∧ Hid (Pl.vl Pl.vh Pl.Hd.num (l.drop k) s = V) ∧ Below w.heap.size w wr) (fun _ i _ => l.length - (intOf i).toNat)
    case atStart => exact ⟨0, [], Nat.zero_le _, rfl, hS0, HL, hB0⟩
    case round =>
      clear hS0 hB0 HL
      obtain ⟨k, s, hk, rfl, hS, hvl, hB⟩ := hrel
      obtain ⟨wo, rfl⟩ : ∃ wo, wo = wr := ⟨_, rfl⟩
      by_cases hlt : k < l.length
      · obtain ⟨bz, oz, rfl, hbz, hcz⟩ : ∃ bb off, A = some ⟨bb, off, none⟩ ∧ bb < w.heap.size ∧ ∀ j, j < l.length → w.rangeAt bb (off + j * 6) (hdA (l.getD j zhd)).toList := by
          rcases HI.out with h | ⟨bb, off, he, hb, hc⟩
          · rw [h] at hlt; simp at hlt
          · exact ⟨bb, off, he, hb, hc⟩
        have hck := rangeAt_below (hcz k hlt) hbz hB
        have hvl2 := Lib.hid (hvl.out.symm.trans (Pl.vl_step (z := zhd) hlt))
        clear hcz hvl
        generalize l.getD k zhd = E at *
        have bE : Blk (wo.alloc (.cells (hdA E) 34)) wo.heap.size 34 (hdA E) := Blk.new wo _ _
        have hB1 := hB.alloc hB.size (.cells (hdA E) 34)
        have hS1 := hS.below ((Below.refl wo.heap.size wo).alloc (Nat.le_refl _) (.cells (hdA E) 34))
        obtain ⟨v, hv⟩ : ∃ v, Pl.vh E = v := ⟨_, rfl⟩
        rw [hv] at hvl2
        have HVV := Lib.hid hv
        go_wp2_with (refine ldm_head hck rfl _ rfl rfl ?_)
        refine (vhead_b E v HVV.out _).mono ?_
        rintro e w1 ⟨rfl, hb1⟩
        have bE1 := bE.below hb1 bE.lt
        have hS2 := hS1.below hb1
        have hB2 := hB1.trans (hb1.mono hB1.size)
        clear hS1 hB1 hb1 bE hS hB hck
        have hr1 := bE1.range
        have hbz1 := bE1.lt
        generalize wo.heap.size = be at *
        cases v with
        | false =>
          have HF : Hid (V = false) := Lib.hid (by rw [hvl2.out]; rfl)
          clear hvl2
          go_wp2
          go_ret
          exact ⟨by rw [HF.out]; rfl, hB2⟩
        | true =>
          have hwf := Lib.hid (num_head_wf hv)
          obtain ⟨m, hm⟩ : ∃ m, decide (E.num ∈ s) = m := ⟨_, rfl⟩
          have hlk : ∀ w2, Below w1.heap.size w1 w2 → (Instr.lookup 94 (.map (some w.heap.size)) (.int .i64 E.num) false).run Tryd.prog w2 = .ok (.bool m) w2 := fun w2 hb => by
            rw [(hS2.below hb).look hwf.out, hm]
          have hvl3 : Hid (V = (!m && Pl.vl Pl.vh Pl.Hd.num (l.drop (k + 1)) (E.num :: s))) := Lib.hid (by rw [hvl2.out, ← hm]; rfl)
          have HLK := Lib.hid hlk
          clear hvl2 hm hlk hv
          go_wp2_with (refine ldm_head hr1 rfl _ rfl rfl ?_)
          refine (num_head E _).mono ?_
          rintro e w2 ⟨rfl, hb2⟩
          have hlk := HLK.out w2 hb2
          have bE2 := bE1.below hb2 hbz1
          have hS3 := hS2.below hb2
          have hB3 := hB2.trans (hb2.mono hB2.size)
          have hr2 := bE2.range
          clear HLK hS2 hB2 hb2 hr1
          cases m with
          | true =>
            have HF : Hid (V = false) := Lib.hid (by rw [hvl3.out]; rfl)
            go_wp2
            go_ret
            exact ⟨by rw [HF.out]; rfl, hB3⟩
          | false =>
            have hvl4 : Hid (Pl.vl Pl.vh Pl.Hd.num (l.drop (k + 1)) (E.num :: s) = V) := Lib.hid (by rw [hvl3.out]; rfl)
            go_wp2_with (refine ldm_head hr2 rfl _ rfl rfl ?_)
            refine (num_head E _).mono ?_
            rintro e w3 ⟨rfl, hb3⟩
            have hS4 := hS3.below hb3
            have hB4 := hB3.trans (hb3.mono hB3.size)
            obtain ⟨w4, hrun, hS5, hg⟩ := hS4.store (by unfold maxLen; omega) hwf.out
            have hB5 := hB4.grown hg hB4.size (fun k e => by cases e; exact Nat.le_refl _)
            clear hlk hS4 hB4 hg hb3 bE2 bE1 hr2 hS3 hB3
            go_wp2
            go_roundw
            case rel => exact ⟨k + 1, _, by omega, by go_num, hS5, hvl4, hB5⟩
            case measure => simp [intOf]; omega
      · obtain rfl : k = l.length := by omega
        have HT : Hid (V = true) := Lib.hid (by rw [← hvl.out, Pl.vl_end])
        go_wp2
        go_ret
        exact ⟨by rw [HT.out]; rfl, hB⟩

set_option maxRecDepth 100000 in
set_option maxHeartbeats 1000000 in
theorem valid_heads (A : Option Addr) (l : List Pl.Hd) (c : Nat) (w : World) (hI : Hds w A l) :
    Calls Tryd.prog 11 #[.slice A l.length c] w fun e w' => e = .returned (.bool (Pl.vhds l)) ∧ Below w.heap.size w w' := by
  have HV := Lib.hid (vlist_head A l c w hI)
  generalize Pl.vhds l = V at *
  go_enter Tryd.func11, Tryd.ntmps11
  go_wp2_with fail
  refine HV.out.mono ?_
  rintro e w1 ⟨rfl, hb⟩
  go_wp2
  go_ret
  exact ⟨rfl, hb⟩
end Go.Proofs.YtghbipipehglfaaDoor
