/- Life, Services, of the program and of the document. -/
import Derived.Test.YtdnfipeadoiepaaG2
namespace Go.Proofs.Ytdnfipeadoiepaa
open Go.RowKit Go.Shelf

theorem lif_yes {h : Pl.Hg} {least f : Int} {k n : Nat} (hl : f < least) : Pl.lif h least (k + 1) n f = some n := if_pos hl
theorem lif_no {h : Pl.Hg} {least f : Int} {k n : Nat} (hl : ¬ f < least) : Pl.lif h least (k + 1) n f = Pl.lif h least k (n + 1) (Pl.op1 h f) := if_neg hl
theorem sv_down {h : Pl.Hg} {least s f : Int} {k : Nat} (h1 : Pl.op1 h f < least) (h2 : Pl.op1 h (Pl.tig h f) < least) : Pl.sv h least (k + 1) s f = none := by rw [Pl.sv, if_pos h1, if_pos h2]
theorem sv_tight {h : Pl.Hg} {least s f : Int} {k : Nat} (h1 : Pl.op1 h f < least) (h2 : ¬ Pl.op1 h (Pl.tig h f) < least) : Pl.sv h least (k + 1) s f = Pl.sv h least k (s + 1) (Pl.op1 h (Pl.tig h f)) := by rw [Pl.sv, if_pos h1, if_neg h2]
theorem sv_on {h : Pl.Hg} {least s f : Int} {k : Nat} (h1 : ¬ Pl.op1 h f < least) : Pl.sv h least (k + 1) s f = Pl.sv h least k s (Pl.op1 h f) := by rw [Pl.sv, if_neg h1]



set_option maxRecDepth 100000 in
set_option maxHeartbeats 4000000 in
theorem Life_any (h : Pl.Hg) (f least : Int) (w : World) :
    Calls Try.prog 43 #[.agg (hgA h), .int .i64 f, .int .i64 least] w fun e w' => e = .returned (.tuple #[.int .i64 (Pl.liN (Pl.liO h f least)), .bool (Pl.liB (Pl.liO h f least)), .int .i64 (Pl.ckh h f 0 least)]) ∧ Below w.heap.size w w' := by
  have hB := (Below.refl w.heap.size w).alloc (Nat.le_refl _) (.cells (hgA h) 55)
  have bT := Blk.new w 55 (hgA h)
  have hr := bT.range
  obtain ⟨e, hc⟩ : ∃ e, Pl.ckh h f 0 least = e := ⟨_, rfl⟩
  have HC := Lib.hid (checkhinge_b h f 0 least e hc)
  by_cases h0 : e = 0
  · subst h0
    obtain ⟨hv, hf, _, _⟩ := Pl.ckh_ok hc
    have hs := hv.s2
    obtain ⟨R, hR⟩ : ∃ R, Pl.lif h least 100001 0 f = R := ⟨_, rfl⟩
    have HV : Hid (Pl.liO h f least = R) := Lib.hid (by unfold Pl.liO; rw [if_pos hc]; exact hR)
    rw [HV.out, hc]
    have HR := Lib.hid hR
    have HVh := Lib.hid hv
    have HF := Lib.hid hf
    clear hc hv hf hR
    go_enter Try.func43, Try.ntmps43
    go_wp2_with (refine ldm_hg hr rfl _ rfl rfl ?_)
    refine (HC.out _).mono ?_
    rintro e w1 ⟨rfl, hb1⟩
    have hB1 := hB.trans (hb1.mono hB.size)
    have bT1 := bT.below hb1 bT.lt
    have q1 := bT1.cell 1
    clear hb1 bT hB hr
    go_wp2
    clear q1
    go_loopw [1, 10, 18] (fun vf _ i wr => ∃ k : Nat, k ≤ 100001 ∧ i = .int .i64 k ∧ vf = .int .i64 (Pl.opn h f k) ∧ Hid (Pl.lif h least (100001 - k) k (Pl.opn h f k) = R) ∧ Blk wr w.heap.size 55 (hgA h) ∧ Below w.heap.size w wr) (fun _ _ i _ => 100001 - (intOf i).toNat)
    case atStart => exact ⟨0, Nat.zero_le _, rfl, rfl, HR, bT1, hB1⟩
    case round =>
      clear hB1 bT1 HR
      obtain ⟨k, hk, rfl, rfl, hlif, bT, hB⟩ := hrel
      by_cases hlt : k < 100001
      · have hr := bT.range
        have hbd := Pl.opn_bounds HVh.out HF.out.1 k
        have hff := HF.out
        have e1 : 100001 - k = (100001 - (k + 1)) + 1 := by omega
        have hli : (k : Int) < 100001 := by omega
        have HL := Lib.hid hlt
        by_cases hl : Pl.opn h f k < least
        · have HE : Hid (R = some k) := Lib.hid (by rw [← hlif.out, e1, lif_yes hl])
          clear hlif e1 hlt hk
          go_wp2
          go_ret3
          exact ⟨by rw [HE.out]; rfl, hB⟩
        · have HE : Hid (Pl.lif h least (100001 - (k + 1)) (k + 1) (Pl.opn h f (k + 1)) = R) := Lib.hid (by rw [← hlif.out, e1, lif_no hl]; rfl)
          clear hlif e1 hlt hk
          go_wp2_with (refine ldm_hg hr rfl _ rfl rfl ?_)
          refine (opened_b h HVh.out _ (by omega) _ rfl _).mono ?_
          rintro e w2 ⟨rfl, hb2⟩
          have hB2 := hB.trans (hb2.mono hB.size)
          have bT2 := bT.below hb2 bT.lt
          clear hb2 hr
          go_wp2
          go_roundw
          case rel => exact ⟨k + 1, HL.out, by go_num, rfl, HE, bT2, hB2⟩
          case measure => have := HL.out; simp [intOf]; omega
      · obtain rfl : k = 100001 := by omega
        have HE : Hid (R = none) := Lib.hid (by rw [← hlif.out]; rfl)
        go_wp2
        go_ret3
        exact ⟨by rw [HE.out]; rfl, hB⟩
  · have h1 : (e != 0) = true := by simp [h0]
    have HV : Hid (Pl.liO h f least = none) := Lib.hid (by unfold Pl.liO; rw [if_neg (by rw [hc]; exact h0)])
    rw [HV.out, hc]
    clear h0 hc
    go_enter Try.func43, Try.ntmps43
    go_wp2_with (refine ldm_hg hr rfl _ rfl rfl ?_)
    refine (HC.out _).mono ?_
    rintro e w1 ⟨rfl, hb1⟩
    have hB1 := hB.trans (hb1.mono hB.size)
    have q1 := (bT.below hb1 bT.lt).cell 1
    go_wp2
    go_ret3
    exact ⟨rfl, hB1⟩


set_option maxRecDepth 100000 in
set_option maxHeartbeats 4000000 in
theorem rLife_any (h : Pl.Hg) (f least : Int) (w : World) :
    Calls Try.prog 44 #[.agg (hgA h), .int .i64 f, .int .i64 least] w fun e w' => e = .returned (.tuple #[.int .i64 (Pl.liN (Pl.liO h f least)), .bool (Pl.liB (Pl.liO h f least)), .int .i64 (Pl.ckh h f 0 least)]) ∧ Below w.heap.size w w' := by
  have hB := (Below.refl w.heap.size w).alloc (Nat.le_refl _) (.cells (hgA h) 55)
  have bT := Blk.new w 55 (hgA h)
  have hr := bT.range
  rcases fr_split (h := h) (f := f) (n := 0) (least := least) with ⟨x, hx, hx0, hc⟩ | ⟨hx, hc⟩
  · have h1 : (x != 0) = true := by simp [hx0]
    have h2 : (x == 0) = false := by simp [hx0]
    have HC := Lib.hid (friction_b h f x hx)
    have HV : Hid (Pl.liO h f least = none) := Lib.hid (by unfold Pl.liO; rw [if_neg (by rw [hc]; exact hx0)])
    rw [HV.out, hc]
    clear hx hx0 hc
    go_enter Try.func44, Try.ntmps44
    go_wp2_with (refine ldm_hg hr rfl _ rfl rfl ?_)
    refine (HC.out _).mono ?_
    rintro e w1 ⟨rfl, hb1⟩
    have hB1 := hB.trans (hb1.mono hB.size)
    have q1 := (bT.below hb1 bT.lt).cell 1
    go_wp2
    go_ret3
    exact ⟨rfl, hB1⟩
  · have HC := Lib.hid (friction_b h f 0 hx)
    obtain ⟨hv, hf⟩ := vh_of hx
    have hs := hv.s2
    have hs1 := hv.s1
    rw [show Pl.inB 0 0 100000 = true from by decide, Bool.true_and] at hc
    by_cases a0 : least < 0
    · rw [show Pl.inB 0 least h.start = false from by unfold Pl.inB; rw [decide_eq_false (by omega)]; rfl, if_neg (by simp)] at hc
      have HV : Hid (Pl.liO h f least = none) := Lib.hid (by unfold Pl.liO; rw [if_neg (by rw [hc]; decide)])
      rw [HV.out, hc]
      clear hx hc hv hf
      go_enter Try.func44, Try.ntmps44
      go_wp2_with (refine ldm_hg hr rfl _ rfl rfl ?_)
      refine (HC.out _).mono ?_
      rintro e w1 ⟨rfl, hb1⟩
      have hB1 := hB.trans (hb1.mono hB.size)
      have q1 := (bT.below hb1 bT.lt).cell 1
      go_wp2
      go_ret3
      exact ⟨rfl, hB1⟩
    by_cases a1 : h.start < least
    · rw [show Pl.inB 0 least h.start = false from by unfold Pl.inB; rw [decide_eq_false (p := least ≤ h.start) (by omega), Bool.and_false], if_neg (by simp)] at hc
      have HV : Hid (Pl.liO h f least = none) := Lib.hid (by unfold Pl.liO; rw [if_neg (by rw [hc]; decide)])
      rw [HV.out, hc]
      clear hx hc hv hf
      go_enter Try.func44, Try.ntmps44
      go_wp2_with (refine ldm_hg hr rfl _ rfl rfl ?_)
      refine (HC.out _).mono ?_
      rintro e w1 ⟨rfl, hb1⟩
      have hB1 := hB.trans (hb1.mono hB.size)
      have q1 := (bT.below hb1 bT.lt).cell 1
      go_wp2
      go_ret3
      exact ⟨rfl, hB1⟩
    · rw [show Pl.inB 0 least h.start = true from Pl.inB_true.2 ⟨by omega, by omega⟩, if_pos rfl] at hc
      obtain ⟨R, hR⟩ : ∃ R, Pl.lif h least 100001 0 f = R := ⟨_, rfl⟩
      have HV : Hid (Pl.liO h f least = R) := Lib.hid (by unfold Pl.liO; rw [if_pos hc]; exact hR)
      rw [HV.out, hc]
      have HR := Lib.hid hR
      have HVh := Lib.hid hv
      have HF := Lib.hid hf
      clear hx hc hv hf hR
      go_enter Try.func44, Try.ntmps44
      go_wp2_with (refine ldm_hg hr rfl _ rfl rfl ?_)
      refine (HC.out _).mono ?_
      rintro e w1 ⟨rfl, hb1⟩
      have hB1 := hB.trans (hb1.mono hB.size)
      have bT1 := bT.below hb1 bT.lt
      have q1 := bT1.cell 1
      clear hb1 bT hB hr
      go_wp2
      clear q1
      go_loopw [1, 10] (fun vf i wr => ∃ k : Nat, k ≤ 100001 ∧ i = .int .i64 k ∧ vf = .int .i64 (Pl.opn h f k) ∧ Hid (Pl.lif h least (100001 - k) k (Pl.opn h f k) = R) ∧ Blk wr w.heap.size 55 (hgA h) ∧ Below w.heap.size w wr) (fun _ i _ => 100001 - (intOf i).toNat)
      case atStart => exact ⟨0, Nat.zero_le _, rfl, rfl, HR, bT1, hB1⟩
      case round =>
        clear hB1 bT1 HR
        obtain ⟨k, hk, rfl, rfl, hlif, bT, hB⟩ := hrel
        by_cases hlt : k < 100001
        · have hr := bT.range
          have hbd := Pl.opn_bounds HVh.out HF.out.1 k
          have hff := HF.out
          have e1 : 100001 - k = (100001 - (k + 1)) + 1 := by omega
          have hli : (k : Int) ≤ 100000 := by omega
          have HL := Lib.hid hlt
          by_cases hl : Pl.opn h f k < least
          · have HE : Hid (R = some k) := Lib.hid (by rw [← hlif.out, e1, lif_yes hl])
            clear hlif e1 hlt hk
            go_wp2
            go_ret3
            exact ⟨by rw [HE.out]; rfl, hB⟩
          · have HE : Hid (Pl.lif h least (100001 - (k + 1)) (k + 1) (Pl.opn h f (k + 1)) = R) := Lib.hid (by rw [← hlif.out, e1, lif_no hl]; rfl)
            clear hlif e1 hlt hk
            go_wp2_with (refine ldm_hg hr rfl _ rfl rfl ?_)
            refine (ropened_b h HVh.out _ (by omega) _ rfl _).mono ?_
            rintro e w2 ⟨rfl, hb2⟩
            have hB2 := hB.trans (hb2.mono hB.size)
            have bT2 := bT.below hb2 bT.lt
            clear hb2 hr
            go_wp2
            go_roundw
            case rel => exact ⟨k + 1, HL.out, by go_num, rfl, HE, bT2, hB2⟩
            case measure => have := HL.out; simp [intOf]; omega
        · obtain rfl : k = 100001 := by omega
          have HE : Hid (R = none) := Lib.hid (by rw [← hlif.out]; rfl)
          go_wp2
          go_ret3
          exact ⟨by rw [HE.out]; rfl, hB⟩
end Go.Proofs.Ytdnfipeadoiepaa
