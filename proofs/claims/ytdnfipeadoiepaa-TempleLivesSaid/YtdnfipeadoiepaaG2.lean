/- Opened, Tightened, Life, Services, of the program and of the document. -/
import Derived.Test.YtdnfipeadoiepaaG1
namespace Go.Proofs.Ytdnfipeadoiepaa
open Go.RowKit Go.Shelf

theorem ckh_f (h : Pl.Hg) (f n least : Int) : Pl.ckh h f n least = (if Pl.vhg h = true then (if Pl.inB 0 f h.start = true then (if (Pl.inB 0 n 100000 && Pl.inB 0 least h.start) = true then 0 else 2) else 2) else 41) := by
  unfold Pl.ckh
  cases Pl.vhg h <;> cases Pl.inB 0 f h.start <;> simp


set_option maxRecDepth 100000 in
set_option maxHeartbeats 2000000 in
theorem Opened_any (h : Pl.Hg) (f n : Int) (w : World) :
    Calls Try.prog 37 #[.agg (hgA h), .int .i64 f, .int .i64 n] w fun e w' => e = .returned (.tuple #[.int .i64 (Pl.opV h f n), .int .i64 (Pl.ckh h f n 0)]) ∧ Below w.heap.size w w' := by
  have hB := (Below.refl w.heap.size w).alloc (Nat.le_refl _) (.cells (hgA h) 55)
  have bT := Blk.new w 55 (hgA h)
  have hr := bT.range
  obtain ⟨e, he⟩ : ∃ e, Pl.ckh h f n 0 = e := ⟨_, rfl⟩
  have HC := Lib.hid (checkhinge_b h f n 0 e he)
  unfold Pl.opV
  rw [he]
  by_cases h0 : e = 0
  · subst h0
    obtain ⟨hv, hf, hn, _⟩ := Pl.ckh_ok he
    have hs := hv.s2
    obtain ⟨N, rfl⟩ : ∃ N : Nat, n = N := ⟨n.toNat, by omega⟩
    have HV := Lib.hid hv
    have HF := Lib.hid hf
    clear he hv
    rw [if_pos rfl, Int.toNat_natCast]
    go_enter Try.func37, Try.ntmps37
    go_wp2_with (refine ldm_hg hr rfl _ rfl rfl ?_)
    refine (HC.out _).mono ?_
    rintro e w1 ⟨rfl, hb1⟩
    have hB1 := hB.trans (hb1.mono hB.size)
    have bT1 := bT.below hb1 bT.lt
    clear hb1 bT hB hr hf
    go_wp2
    go_loopw [1, 17] (fun vf i wr => ∃ k : Nat, k ≤ N ∧ i = .int .i64 k ∧ vf = .int .i64 (Pl.opn h f k) ∧ Blk wr w.heap.size 55 (hgA h) ∧ Below w.heap.size w wr) (fun _ i _ => N - (intOf i).toNat)
    case atStart => exact ⟨0, Nat.zero_le _, rfl, rfl, bT1, hB1⟩
    case round =>
      clear hB1 bT1
      obtain ⟨k, hk, rfl, rfl, bT, hB⟩ := hrel
      by_cases hlt : k < N
      · have hr := bT.range
        have hbd := Pl.opn_bounds HV.out HF.out.1 k
        have hff := HF.out
        go_wp2_with (refine ldm_hg hr rfl _ rfl rfl ?_)
        refine (opened_b h HV.out _ (by omega) _ rfl _).mono ?_
        rintro e w2 ⟨rfl, hb2⟩
        have hB2 := hB.trans (hb2.mono hB.size)
        have bT2 := bT.below hb2 bT.lt
        clear hb2 hr
        go_wp2
        go_roundw
        case rel => exact ⟨k + 1, by omega, by go_num, rfl, bT2, hB2⟩
        case measure => simp [intOf]; omega
      · obtain rfl : k = N := by omega
        go_wp2
        go_ret2
        exact ⟨rfl, hB⟩
  · have h1 : (e != 0) = true := by simp [h0]
    rw [if_neg h0]
    clear h0 he
    go_enter Try.func37, Try.ntmps37
    go_wp2_with (refine ldm_hg hr rfl _ rfl rfl ?_)
    refine (HC.out _).mono ?_
    rintro e' w1 ⟨rfl, hb1⟩
    have hB1 := hB.trans (hb1.mono hB.size)
    go_wp2
    go_ret2
    exact ⟨rfl, hB1⟩


/-- the document's error when a friction is tested ahead of the rest -/
theorem fr_split {h : Pl.Hg} {f n least : Int} : (∃ x, (if Pl.vhg h = true then (if Pl.inB 0 f h.start = true then 0 else 2) else (41 : Int)) = x ∧ x ≠ 0 ∧ Pl.ckh h f n least = x) ∨
    ((if Pl.vhg h = true then (if Pl.inB 0 f h.start = true then 0 else 2) else (41 : Int)) = 0 ∧ Pl.ckh h f n least = if (Pl.inB 0 n 100000 && Pl.inB 0 least h.start) = true then 0 else 2) := by
  rw [ckh_f]
  cases Pl.vhg h <;> cases Pl.inB 0 f h.start <;> simp
theorem vh_of {h : Pl.Hg} {f : Int} (e : (if Pl.vhg h = true then (if Pl.inB 0 f h.start = true then 0 else 2) else (41 : Int)) = 0) : Pl.Vh h ∧ 0 ≤ f ∧ f ≤ h.start := by
  split at e
  · rename_i h1
    split at e
    · rename_i h2; exact ⟨Pl.vhg_true.1 h1, Pl.inB_true.1 h2⟩
    · cases e
  · cases e

set_option maxRecDepth 100000 in
set_option maxHeartbeats 4000000 in
theorem rOpened_any (h : Pl.Hg) (f n : Int) (w : World) :
    Calls Try.prog 38 #[.agg (hgA h), .int .i64 f, .int .i64 n] w fun e w' => e = .returned (.tuple #[.int .i64 (Pl.opV h f n), .int .i64 (Pl.ckh h f n 0)]) ∧ Below w.heap.size w w' := by
  have hB := (Below.refl w.heap.size w).alloc (Nat.le_refl _) (.cells (hgA h) 55)
  have bT := Blk.new w 55 (hgA h)
  have hr := bT.range
  rcases fr_split (h := h) (f := f) (n := n) (least := 0) with ⟨x, hx, hx0, hc⟩ | ⟨hx, hc⟩
  · have HV : Hid (Pl.opV h f n = 0) := Lib.hid (by unfold Pl.opV; rw [if_neg (by rw [hc]; exact hx0)])
    rw [HV.out, hc]
    have h1 : (x != 0) = true := by simp [hx0]
    have h2 : (x == 0) = false := by simp [hx0]
    have HC := Lib.hid (friction_b h f x hx)
    clear hx hx0 hc
    go_enter Try.func38, Try.ntmps38
    go_wp2_with (refine ldm_hg hr rfl _ rfl rfl ?_)
    refine (HC.out _).mono ?_
    rintro e w1 ⟨rfl, hb1⟩
    have hB1 := hB.trans (hb1.mono hB.size)
    go_wp2
    go_ret2
    exact ⟨rfl, hB1⟩
  · have HC := Lib.hid (friction_b h f 0 hx)
    obtain ⟨hv, hf⟩ := vh_of hx
    have hs := hv.s2
    have hs1 := hv.s1
    have h00 : Pl.inB 0 0 h.start = true := Pl.inB_true.2 ⟨by omega, by omega⟩
    rw [h00, Bool.and_true] at hc
    by_cases a0 : n < 0
    · rw [show Pl.inB 0 n 100000 = false from by unfold Pl.inB; rw [decide_eq_false (by omega)]; rfl, if_neg (by simp)] at hc
      have HV : Hid (Pl.opV h f n = 0) := Lib.hid (by unfold Pl.opV; rw [if_neg (by rw [hc]; decide)])
      rw [HV.out, hc]
      clear hx hc h00 hv hf
      go_enter Try.func38, Try.ntmps38
      go_wp2_with (refine ldm_hg hr rfl _ rfl rfl ?_)
      refine (HC.out _).mono ?_
      rintro e w1 ⟨rfl, hb1⟩
      have hB1 := hB.trans (hb1.mono hB.size)
      go_wp2
      go_ret2
      exact ⟨rfl, hB1⟩
    by_cases a1 : 100000 < n
    · rw [show Pl.inB 0 n 100000 = false from by unfold Pl.inB; rw [decide_eq_false (p := n ≤ 100000) (by omega), Bool.and_false], if_neg (by simp)] at hc
      have HV : Hid (Pl.opV h f n = 0) := Lib.hid (by unfold Pl.opV; rw [if_neg (by rw [hc]; decide)])
      rw [HV.out, hc]
      clear hx hc h00 hv hf
      go_enter Try.func38, Try.ntmps38
      go_wp2_with (refine ldm_hg hr rfl _ rfl rfl ?_)
      refine (HC.out _).mono ?_
      rintro e w1 ⟨rfl, hb1⟩
      have hB1 := hB.trans (hb1.mono hB.size)
      go_wp2
      go_ret2
      exact ⟨rfl, hB1⟩
    · rw [show Pl.inB 0 n 100000 = true from Pl.inB_true.2 ⟨by omega, by omega⟩, if_pos rfl] at hc
      obtain ⟨N, rfl⟩ : ∃ N : Nat, n = N := ⟨n.toNat, by omega⟩
      have HV0 : Hid (Pl.opV h f N = Pl.opn h f N) := Lib.hid (by unfold Pl.opV; rw [if_pos hc, Int.toNat_natCast])
      rw [HV0.out, hc]
      have HV := Lib.hid hv
      have HF := Lib.hid hf
      clear hx hc h00 hv hf
      go_enter Try.func38, Try.ntmps38
      go_wp2_with (refine ldm_hg hr rfl _ rfl rfl ?_)
      refine (HC.out _).mono ?_
      rintro e w1 ⟨rfl, hb1⟩
      have hB1 := hB.trans (hb1.mono hB.size)
      have bT1 := bT.below hb1 bT.lt
      clear hb1 bT hB hr
      go_wp2
      go_loopw [1, 9] (fun vf i wr => ∃ k : Nat, k ≤ N ∧ i = .int .i64 k ∧ vf = .int .i64 (Pl.opn h f k) ∧ Blk wr w.heap.size 55 (hgA h) ∧ Below w.heap.size w wr) (fun _ i _ => N - (intOf i).toNat)
      case atStart => exact ⟨0, Nat.zero_le _, rfl, rfl, bT1, hB1⟩
      case round =>
        clear hB1 bT1
        obtain ⟨k, hk, rfl, rfl, bT, hB⟩ := hrel
        by_cases hlt : k < N
        · have hr := bT.range
          have hbd := Pl.opn_bounds HV.out HF.out.1 k
          have hff := HF.out
          go_wp2_with (refine ldm_hg hr rfl _ rfl rfl ?_)
          refine (ropened_b h HV.out _ (by omega) _ rfl _).mono ?_
          rintro e w2 ⟨rfl, hb2⟩
          have hB2 := hB.trans (hb2.mono hB.size)
          have bT2 := bT.below hb2 bT.lt
          clear hb2 hr
          go_wp2
          go_roundw
          case rel => exact ⟨k + 1, by omega, by go_num, rfl, bT2, hB2⟩
          case measure => simp [intOf]; omega
        · obtain rfl : k = N := by omega
          go_wp2
          go_ret2
          exact ⟨rfl, hB⟩


set_option maxRecDepth 100000 in
set_option maxHeartbeats 2000000 in
theorem Tightened_any (h : Pl.Hg) (f : Int) (w : World) :
    Calls Try.prog 39 #[.agg (hgA h), .int .i64 f] w fun e w' => e = .returned (.tuple #[.int .i64 (Pl.tiV h f), .int .i64 (Pl.ckh h f 0 0)]) ∧ Below w.heap.size w w' := by
  have hB := (Below.refl w.heap.size w).alloc (Nat.le_refl _) (.cells (hgA h) 55)
  have bT := Blk.new w 55 (hgA h)
  have hr := bT.range
  obtain ⟨e, he⟩ : ∃ e, Pl.ckh h f 0 0 = e := ⟨_, rfl⟩
  have HC := Lib.hid (checkhinge_b h f 0 0 e he)
  unfold Pl.tiV
  rw [he]
  by_cases h0 : e = 0
  · subst h0
    obtain ⟨hv, hf, _⟩ := Pl.ckh_ok he
    have hs := hv.s2
    have HT := Lib.hid (tightened_b h hv f (by omega) _ rfl)
    clear he hv hf
    rw [if_pos rfl]
    go_enter Try.func39, Try.ntmps39
    go_wp2_with (refine ldm_hg hr rfl _ rfl rfl ?_)
    refine (HC.out _).mono ?_
    rintro e w1 ⟨rfl, hb1⟩
    have hB1 := hB.trans (hb1.mono hB.size)
    have hr1 := (bT.below hb1 bT.lt).range
    clear hb1 bT hB hr
    go_wp2_with (refine ldm_hg hr1 rfl _ rfl rfl ?_)
    refine (HT.out _).mono ?_
    rintro e w2 ⟨rfl, hb2⟩
    go_wp2
    go_ret2
    exact ⟨rfl, hB1.trans (hb2.mono hB1.size)⟩
  · have h1 : (e != 0) = true := by simp [h0]
    rw [if_neg h0]
    clear h0 he
    go_enter Try.func39, Try.ntmps39
    go_wp2_with (refine ldm_hg hr rfl _ rfl rfl ?_)
    refine (HC.out _).mono ?_
    rintro e' w1 ⟨rfl, hb1⟩
    have hB1 := hB.trans (hb1.mono hB.size)
    go_wp2
    go_ret2
    exact ⟨rfl, hB1⟩

set_option maxRecDepth 100000 in
set_option maxHeartbeats 2000000 in
theorem rTightened_any (h : Pl.Hg) (f : Int) (w : World) :
    Calls Try.prog 40 #[.agg (hgA h), .int .i64 f] w fun e w' => e = .returned (.tuple #[.int .i64 (Pl.tiV h f), .int .i64 (Pl.ckh h f 0 0)]) ∧ Below w.heap.size w w' := by
  have hB := (Below.refl w.heap.size w).alloc (Nat.le_refl _) (.cells (hgA h) 55)
  have bT := Blk.new w 55 (hgA h)
  have hr := bT.range
  rcases fr_split (h := h) (f := f) (n := 0) (least := 0) with ⟨x, hx, hx0, hc⟩ | ⟨hx, hc⟩
  · have HV : Hid (Pl.tiV h f = 0) := Lib.hid (by unfold Pl.tiV; rw [if_neg (by rw [hc]; exact hx0)])
    rw [HV.out, hc]
    have h1 : (x != 0) = true := by simp [hx0]
    have HC := Lib.hid (friction_b h f x hx)
    clear hx hx0 hc
    go_enter Try.func40, Try.ntmps40
    go_wp2_with (refine ldm_hg hr rfl _ rfl rfl ?_)
    refine (HC.out _).mono ?_
    rintro e w1 ⟨rfl, hb1⟩
    have hB1 := hB.trans (hb1.mono hB.size)
    go_wp2
    go_ret2
    exact ⟨rfl, hB1⟩
  · have HC := Lib.hid (friction_b h f 0 hx)
    obtain ⟨hv, hf⟩ := vh_of hx
    have hs := hv.s2
    have hs1 := hv.s1
    have ht1 := hv.t1
    have ht2 := hv.t2
    rw [show Pl.inB 0 0 h.start = true from Pl.inB_true.2 ⟨by omega, by omega⟩, show Pl.inB 0 0 100000 = true from by decide, if_pos (by decide)] at hc
    have k1 : IntKind.i64.wrap (f + h.tight) = f + h.tight := IntWalk.i64_in _ (by omega)
    by_cases hm : h.start < f + h.tight
    · have HV : Hid (Pl.tiV h f = h.start) := Lib.hid (by unfold Pl.tiV Pl.tig; rw [if_pos hc]; omega)
      rw [HV.out, hc]
      clear hx hc hv hf ht1 ht2 hs hs1
      go_enter Try.func40, Try.ntmps40
      go_wp2_with (refine ldm_hg hr rfl _ rfl rfl ?_)
      refine (HC.out _).mono ?_
      rintro e w1 ⟨rfl, hb1⟩
      have hB1 := hB.trans (hb1.mono hB.size)
      have bT1 := bT.below hb1 bT.lt
      have q1 := bT1.cell 1
      have q3 := bT1.cell 3
      clear hb1 bT hB hr
      go_wp2
      go_ret2
      exact ⟨rfl, hB1⟩
    · have HV : Hid (Pl.tiV h f = f + h.tight) := Lib.hid (by unfold Pl.tiV Pl.tig; rw [if_pos hc]; omega)
      rw [HV.out, hc]
      clear hx hc hv hf ht1 ht2 hs hs1
      go_enter Try.func40, Try.ntmps40
      go_wp2_with (refine ldm_hg hr rfl _ rfl rfl ?_)
      refine (HC.out _).mono ?_
      rintro e w1 ⟨rfl, hb1⟩
      have hB1 := hB.trans (hb1.mono hB.size)
      have bT1 := bT.below hb1 bT.lt
      have q1 := bT1.cell 1
      have q3 := bT1.cell 3
      clear hb1 bT hB hr
      go_wp2
      go_ret2
      exact ⟨rfl, hB1⟩
end Go.Proofs.Ytdnfipeadoiepaa
