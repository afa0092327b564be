/- Merged: R7 R8. -/
import Derived.Test.YtlikmlhlfbdchaaRY
/- nest: valid boards, the document's Valid, clear, boxes. -/
namespace Go.Proofs.Ytlikmlhlfbdchaa
open Go.RowKit Go.Shelf

set_option maxRecDepth 100000 in
set_option maxHeartbeats 8000000 in
theorem rvboard_b (b : Ne.Bo) (A : Option Addr) (c n : Nat) (hn : b.fs.length = n) (hnM : n ≤ maxLen) (r : Bool) (hr : Ne.vBo b = r) (w : World) (hF : Rows Ne.rcL 4 w A b.fs) :
    Calls Try.prog 67 #[.agg (boW b A n c)] w fun e w' => e = .returned (.bool r) ∧ Below w.heap.size w w' := by
  have hB := (Below.refl w.heap.size w).alloc (Nat.le_refl _) (.cells (boW b A n c) 33)
  have bB := Blk.new w 33 (boW b A n c)
  have q0 := bB.cell 0
  have q1 := bB.cell 1
  have q2 := bB.cell 2
  have q3 := bB.cell 3
  simp only [List.getElem?_toArray, List.getElem?_cons_zero, List.getElem?_cons_succ] at q0 q1 q2 q3
  unfold maxLen at hnM
  have HR : Hid (r = ((decide ((1 ≤ b.w ∧ b.w ≤ 60000) ∧ (1 ≤ b.h ∧ b.h ≤ 60000) ∧ (0 ≤ b.g ∧ b.g ≤ 2000) ∧ n ≤ 10)) && Ne.vFs b n)) := Lib.hid (by
    rw [← hr]; unfold Ne.vBo; rw [hn, ← Bool.and_assoc, ← Bool.decide_and, ← Bool.decide_and, ← Bool.decide_and]; refine congrArg (· && _) ?_; apply decide_eq_decide.2; omega)
  have HF := Lib.hid hF
  have HN := Lib.hid hn
  clear hr hF hn
  by_cases c0 : b.w < 1
  case pos =>
    have d0 : decide (b.w < 1) = true := by simp; omega
    have HV : Hid (r = false) := Lib.hid (by rw [HR.out, decide_eq_false (by omega)]; rfl)
    go_enter Try.func67, Try.ntmps67
    go_wp2
    go_ret
    exact ⟨by rw [HV.out]; rfl, hB⟩
  by_cases c1 : 60000 < b.w
  case pos =>
    have d0 : decide (b.w < 1) = false := by simp; omega
    have d1 : decide (60000 < b.w) = true := by simp; omega
    have HV : Hid (r = false) := Lib.hid (by rw [HR.out, decide_eq_false (by omega)]; rfl)
    go_enter Try.func67, Try.ntmps67
    go_wp2
    go_ret
    exact ⟨by rw [HV.out]; rfl, hB⟩
  by_cases c2 : b.h < 1
  case pos =>
    have d0 : decide (b.w < 1) = false := by simp; omega
    have d1 : decide (60000 < b.w) = false := by simp; omega
    have d2 : decide (b.h < 1) = true := by simp; omega
    have HV : Hid (r = false) := Lib.hid (by rw [HR.out, decide_eq_false (by omega)]; rfl)
    go_enter Try.func67, Try.ntmps67
    go_wp2
    go_ret
    exact ⟨by rw [HV.out]; rfl, hB⟩
  by_cases c3 : 60000 < b.h
  case pos =>
    have d0 : decide (b.w < 1) = false := by simp; omega
    have d1 : decide (60000 < b.w) = false := by simp; omega
    have d2 : decide (b.h < 1) = false := by simp; omega
    have d3 : decide (60000 < b.h) = true := by simp; omega
    have HV : Hid (r = false) := Lib.hid (by rw [HR.out, decide_eq_false (by omega)]; rfl)
    go_enter Try.func67, Try.ntmps67
    go_wp2
    go_ret
    exact ⟨by rw [HV.out]; rfl, hB⟩
  by_cases c4 : b.g < 0
  case pos =>
    have d0 : decide (b.w < 1) = false := by simp; omega
    have d1 : decide (60000 < b.w) = false := by simp; omega
    have d2 : decide (b.h < 1) = false := by simp; omega
    have d3 : decide (60000 < b.h) = false := by simp; omega
    have d4 : decide (b.g < 0) = true := by simp; omega
    have HV : Hid (r = false) := Lib.hid (by rw [HR.out, decide_eq_false (by omega)]; rfl)
    go_enter Try.func67, Try.ntmps67
    go_wp2
    go_ret
    exact ⟨by rw [HV.out]; rfl, hB⟩
  by_cases c5 : 2000 < b.g
  case pos =>
    have d0 : decide (b.w < 1) = false := by simp; omega
    have d1 : decide (60000 < b.w) = false := by simp; omega
    have d2 : decide (b.h < 1) = false := by simp; omega
    have d3 : decide (60000 < b.h) = false := by simp; omega
    have d4 : decide (b.g < 0) = false := by simp; omega
    have d5 : decide (2000 < b.g) = true := by simp; omega
    have HV : Hid (r = false) := Lib.hid (by rw [HR.out, decide_eq_false (by omega)]; rfl)
    go_enter Try.func67, Try.ntmps67
    go_wp2
    go_ret
    exact ⟨by rw [HV.out]; rfl, hB⟩
  by_cases c6 : 10 < n
  case pos =>
    have d0 : decide (b.w < 1) = false := by simp; omega
    have d1 : decide (60000 < b.w) = false := by simp; omega
    have d2 : decide (b.h < 1) = false := by simp; omega
    have d3 : decide (60000 < b.h) = false := by simp; omega
    have d4 : decide (b.g < 0) = false := by simp; omega
    have d5 : decide (2000 < b.g) = false := by simp; omega
    have d6 : decide ((10 : Int) < (n : Int)) = true := by simp; omega
    have HV : Hid (r = false) := Lib.hid (by rw [HR.out, decide_eq_false (by omega)]; rfl)
    go_enter Try.func67, Try.ntmps67
    go_wp2
    go_ret
    exact ⟨by rw [HV.out]; rfl, hB⟩
  have d0 : decide (b.w < 1) = false := by simp; omega
  have d1 : decide (60000 < b.w) = false := by simp; omega
  have d2 : decide (b.h < 1) = false := by simp; omega
  have d3 : decide (60000 < b.h) = false := by simp; omega
  have d4 : decide (b.g < 0) = false := by simp; omega
  have d5 : decide (2000 < b.g) = false := by simp; omega
  have d6 : decide ((10 : Int) < (n : Int)) = false := by simp; omega
  have HV : Hid (r = Ne.vFs b n) := Lib.hid (by rw [HR.out, decide_eq_true (by omega)]; simp)
  have HNO : Hid (∀ k, k < n → Ne.vFs b (k + 1) = false → r = false) := Lib.hid (fun k hk h => by
    rw [HV.out]
    cases e : Ne.vFs b n with
    | false => rfl
    | true => rw [Ne.vFs_mono (show k + 1 ≤ n by omega) e] at h; cases h)
  clear HR
  go_enter Try.func67, Try.ntmps67
  go_wp2
  clear d0 d1 d2 d3 d4 d5 d6 q0 q1 q2 q3
  generalize w.alloc (.cells (boW b A n c) 33) = w1 at *
  go_loopw [42] (fun i wr => ∃ k : Nat, k ≤ n ∧ i = .int .i64 k ∧ Ne.vFs b k = true ∧ Below w1.heap.size w1 wr) (fun i _ => n - (intOf i).toNat)
  case atStart => exact ⟨0, Nat.zero_le _, rfl, rfl, Below.refl _ _⟩
  case round =>
    obtain ⟨k, hk, rfl, hv, hb⟩ := hrel
    have HVK := Lib.hid hv
    clear hv
    by_cases hlt : k < n
    · obtain ⟨g, off, rfl, hg, hc⟩ := (HF.out.below hB).at (z := Ne.zr) (by rw [HN.out]; omega)
      have hck := rangeAt_below (hc k (by rw [HN.out]; omega)) hg hb
      have HS : Hid (Ne.vFs b (k + 1) = (Ne.vF b (b.fs.getD k Ne.zr))) := Lib.hid (by rw [Ne.vFs, HVK.out]; rfl)
      obtain ⟨f, hf⟩ : ∃ f, b.fs.getD k Ne.zr = f := ⟨_, rfl⟩
      rw [hf] at hck HS
      clear hc hf
      have s0 := (bB.below hb bB.lt).alloc (.cells (Ne.rcL f).toArray 44)
      have bN := Blk.new wr 44 (Ne.rcL f).toArray
      have p0 := s0.cell 0
      have p1 := s0.cell 1
      have f0 := bN.cell 0
      have f1 := bN.cell 1
      have f2 := bN.cell 2
      have f3 := bN.cell 3
      simp only [List.getElem?_toArray, List.getElem?_cons_zero, List.getElem?_cons_succ] at p0 p1 f0 f1 f2 f3
      have hb2 := hb.alloc hb.size (.cells (Ne.rcL f).toArray 44)
      have hB2 := hB.trans (hb2.mono hB.size)
      clear s0 bN
      go_wp2_with (refine ldm_rc hck (by rfl) _ rfl rfl (Hid.out ?_))
      by_cases u0 : f.x < 0
      case pos =>
        have v0 : decide (f.x < 0) = true := by simp; omega
        have HT : Hid (r = false) := Lib.hid (HNO.out k hlt (by rw [HS.out, Bool.eq_false_iff]; unfold Ne.vF Ne.pc; simp only [ne_eq, Bool.and_eq_true, decide_eq_true_eq]; omega))
        refine Lib.hid ?_
        go_wp2
        go_ret
        exact ⟨by rw [HT.out]; rfl, hB2⟩
      by_cases u1 : f.y < 0
      case pos =>
        have v0 : decide (f.x < 0) = false := by simp; omega
        have v1 : decide (f.y < 0) = true := by simp; omega
        have HT : Hid (r = false) := Lib.hid (HNO.out k hlt (by rw [HS.out, Bool.eq_false_iff]; unfold Ne.vF Ne.pc; simp only [ne_eq, Bool.and_eq_true, decide_eq_true_eq]; omega))
        refine Lib.hid ?_
        go_wp2
        go_ret
        exact ⟨by rw [HT.out]; rfl, hB2⟩
      by_cases u2 : f.w < 1
      case pos =>
        have v0 : decide (f.x < 0) = false := by simp; omega
        have v1 : decide (f.y < 0) = false := by simp; omega
        have v2 : decide (f.w < 1) = true := by simp; omega
        have HT : Hid (r = false) := Lib.hid (HNO.out k hlt (by rw [HS.out, Bool.eq_false_iff]; unfold Ne.vF Ne.pc; simp only [ne_eq, Bool.and_eq_true, decide_eq_true_eq]; omega))
        refine Lib.hid ?_
        go_wp2
        go_ret
        exact ⟨by rw [HT.out]; rfl, hB2⟩
      by_cases u3 : f.h < 1
      case pos =>
        have v0 : decide (f.x < 0) = false := by simp; omega
        have v1 : decide (f.y < 0) = false := by simp; omega
        have v2 : decide (f.w < 1) = false := by simp; omega
        have v3 : decide (f.h < 1) = true := by simp; omega
        have HT : Hid (r = false) := Lib.hid (HNO.out k hlt (by rw [HS.out, Bool.eq_false_iff]; unfold Ne.vF Ne.pc; simp only [ne_eq, Bool.and_eq_true, decide_eq_true_eq]; omega))
        refine Lib.hid ?_
        go_wp2
        go_ret
        exact ⟨by rw [HT.out]; rfl, hB2⟩
      by_cases u4 : b.w < f.w
      case pos =>
        have v0 : decide (f.x < 0) = false := by simp; omega
        have v1 : decide (f.y < 0) = false := by simp; omega
        have v2 : decide (f.w < 1) = false := by simp; omega
        have v3 : decide (f.h < 1) = false := by simp; omega
        have v4 : decide (b.w < f.w) = true := by simp; omega
        have HT : Hid (r = false) := Lib.hid (HNO.out k hlt (by rw [HS.out, Bool.eq_false_iff]; unfold Ne.vF Ne.pc; simp only [ne_eq, Bool.and_eq_true, decide_eq_true_eq]; omega))
        refine Lib.hid ?_
        go_wp2
        go_ret
        exact ⟨by rw [HT.out]; rfl, hB2⟩
      by_cases u5 : b.h < f.h
      case pos =>
        have v0 : decide (f.x < 0) = false := by simp; omega
        have v1 : decide (f.y < 0) = false := by simp; omega
        have v2 : decide (f.w < 1) = false := by simp; omega
        have v3 : decide (f.h < 1) = false := by simp; omega
        have v4 : decide (b.w < f.w) = false := by simp; omega
        have v5 : decide (b.h < f.h) = true := by simp; omega
        have HT : Hid (r = false) := Lib.hid (HNO.out k hlt (by rw [HS.out, Bool.eq_false_iff]; unfold Ne.vF Ne.pc; simp only [ne_eq, Bool.and_eq_true, decide_eq_true_eq]; omega))
        refine Lib.hid ?_
        go_wp2
        go_ret
        exact ⟨by rw [HT.out]; rfl, hB2⟩
      by_cases u6 : b.w - f.w < f.x
      case pos =>
        have v0 : decide (f.x < 0) = false := by simp; omega
        have v1 : decide (f.y < 0) = false := by simp; omega
        have v2 : decide (f.w < 1) = false := by simp; omega
        have v3 : decide (f.h < 1) = false := by simp; omega
        have v4 : decide (b.w < f.w) = false := by simp; omega
        have v5 : decide (b.h < f.h) = false := by simp; omega
        have v6 : decide (b.w - f.w < f.x) = true := by simp; omega
        have HT : Hid (r = false) := Lib.hid (HNO.out k hlt (by rw [HS.out, Bool.eq_false_iff]; unfold Ne.vF Ne.pc; simp only [ne_eq, Bool.and_eq_true, decide_eq_true_eq]; omega))
        refine Lib.hid ?_
        go_wp2
        go_ret
        exact ⟨by rw [HT.out]; rfl, hB2⟩
      by_cases u7 : b.h - f.h < f.y
      case pos =>
        have v0 : decide (f.x < 0) = false := by simp; omega
        have v1 : decide (f.y < 0) = false := by simp; omega
        have v2 : decide (f.w < 1) = false := by simp; omega
        have v3 : decide (f.h < 1) = false := by simp; omega
        have v4 : decide (b.w < f.w) = false := by simp; omega
        have v5 : decide (b.h < f.h) = false := by simp; omega
        have v6 : decide (b.w - f.w < f.x) = false := by simp; omega
        have v7 : decide (b.h - f.h < f.y) = true := by simp; omega
        have HT : Hid (r = false) := Lib.hid (HNO.out k hlt (by rw [HS.out, Bool.eq_false_iff]; unfold Ne.vF Ne.pc; simp only [ne_eq, Bool.and_eq_true, decide_eq_true_eq]; omega))
        refine Lib.hid ?_
        go_wp2
        go_ret
        exact ⟨by rw [HT.out]; rfl, hB2⟩
      have v0 : decide (f.x < 0) = false := by simp; omega
      have v1 : decide (f.y < 0) = false := by simp; omega
      have v2 : decide (f.w < 1) = false := by simp; omega
      have v3 : decide (f.h < 1) = false := by simp; omega
      have v4 : decide (b.w < f.w) = false := by simp; omega
      have v5 : decide (b.h < f.h) = false := by simp; omega
      have v6 : decide (b.w - f.w < f.x) = false := by simp; omega
      have v7 : decide (b.h - f.h < f.y) = false := by simp; omega
      have HT : Hid (Ne.vFs b (k + 1) = true) := Lib.hid (by rw [HS.out]; unfold Ne.vF Ne.pc; simp only [Bool.and_eq_true, decide_eq_true_eq]; omega)
      refine Lib.hid ?_
      go_wp2
      go_roundw
      case rel => exact ⟨k + 1, by omega, by go_num, HT.out, hb2⟩
      case measure => simp [intOf]; omega
    · obtain rfl : k = n := by omega
      go_wp2
      go_ret
      exact ⟨by rw [HV.out, HVK.out]; rfl, hB.trans (hb.mono hB.size)⟩

set_option maxHeartbeats 1000000 in
theorem rValid_b (b : Ne.Bo) (A B : Option Addr) (c n c' m : Nat) (l : List Ne.Pa) (hn : b.fs.length = n) (hm : l.length = m) (hnM : n ≤ maxLen) (hmM : m ≤ maxLen) (r : Bool) (hr : Ne.vAll b l = r) (w : World) (hF : Rows Ne.rcL 4 w A b.fs) (hP : Ne.PaM w B l) :
    Calls Try.prog 27 #[.agg (boW b A n c), .slice B m c'] w fun e w' => e = .returned (.bool r) ∧ Below w.heap.size w w' := by
  have hB := (Below.refl w.heap.size w).alloc (Nat.le_refl _) (.cells (boW b A n c) 33)
  have bB := Blk.new w 33 (boW b A n c)
  have hrg := bB.range
  obtain ⟨x, hx⟩ : ∃ x, Ne.vBo b = x := ⟨_, rfl⟩
  obtain ⟨y, hy⟩ : ∃ y, Ne.vPa l = y := ⟨_, rfl⟩
  have HR : Hid (r = (x && y)) := Lib.hid (by rw [← hr, ← hx, ← hy]; rfl)
  have HX := Lib.hid (fun W h => rvboard_b b A c n hn hnM x hx W h)
  have HY := Lib.hid (fun W h => rvparts_b B l c' m hm hmM y hy W h)
  have HF := Lib.hid (hF.below hB)
  have HP := Lib.hid (hP.below hB)
  clear hr hx hy hF hP hn hm bB
  go_enter Try.func27, Try.ntmps27
  go_wp2_with (refine ldm_bo hrg rfl _ rfl rfl ?_)
  refine (HX.out _ HF.out).mono ?_
  rintro e w1 ⟨rfl, b1⟩
  have hB1 := hB.trans (b1.mono hB.size)
  cases x with
  | false =>
    go_wp2
    go_ret
    exact ⟨by rw [HR.out]; rfl, hB1⟩
  | true =>
    go_wp2_with fail
    refine (HY.out _ (HP.out.below b1)).mono ?_
    rintro e w2 ⟨rfl, b2⟩
    go_wp2
    go_ret
    exact ⟨by rw [HR.out]; simp, hB1.trans (b2.mono hB1.size)⟩

set_option maxRecDepth 100000 in
set_option maxHeartbeats 4000000 in
theorem rclear_b (b : Ne.Bo) (A B : Option Addr) (o : List Geo.XY) (n c m c' : Nat) (hn : b.fs.length = n) (hm : o.length = m) (h3 : 3 ≤ m) (h64 : m ≤ 64) (hv : Ne.vBo b = true) (hbd : Ne.AllBd o) (hd : Ne.DirOk o)
    (r : Bool) (hr : Ne.clB b o = r) (w : World) (hF : Rows Ne.rcL 4 w A b.fs) (hO : Pts w B o) :
    Calls Try.prog 75 #[.agg (boW b A n c), .slice B m c'] w fun e w' => e = .returned (.bool r) ∧ Below w.heap.size w w' := by
  have hB := (Below.refl w.heap.size w).alloc (Nat.le_refl _) (.cells (boW b A n c) 33)
  have bB := Blk.new w 33 (boW b A n c)
  have q3 := bB.cell 3
  simp only [List.getElem?_toArray, List.getElem?_cons_zero, List.getElem?_cons_succ] at q3
  have HV : Hid (r = Ne.clK b o n) := Lib.hid (by rw [← hr, ← hn]; rfl)
  have HNO : Hid (∀ k, k < n → Ne.clK b o (k + 1) = false → r = false) := Lib.hid (fun k hk h => by
    rw [HV.out]
    cases e : Ne.clK b o n with
    | false => rfl
    | true => rw [Ne.clK_mono (show k + 1 ≤ n by omega) e] at h; cases h)
  have HF := Lib.hid (hF.below hB)
  have HO := Lib.hid (hO.below hB)
  have HN := Lib.hid hn
  have HVB := Lib.hid (Ne.vBo_in hv)
  have HA := Lib.hid (fun (f : Ne.Rc) (hf : Ne.vF b f = true) (x : Bool) (hx : Ne.apB o (Ne.crn f) 0 = x) W C (h1 : Pts W B o) (h2 : Pts W C (Ne.crn f)) => by
    have H := rapart_b B C o (Ne.crn f) c' 4 0 (by omega) (by omega) (by rw [Ne.crn_len]; omega) (by rw [Ne.crn_len]; omega) hbd ((Ne.crn_on hf).allbd HVB.out.1.2 HVB.out.2.1.2) hd.alldir (Ne.crn_dir HVB.out.1.2 HVB.out.2.1.2 hf).alldir (by omega) (by omega) x hx W h1 h2
    rw [hm, Ne.crn_len] at H
    exact H)
  have hn10 : n ≤ 10 := by have := HVB.out.2.2.2.1; rw [HN.out] at this; exact this
  clear hr hn hm hv hF hO hd hbd
  go_enter Try.func75, Try.ntmps75
  go_wp2
  generalize w.alloc (.cells (boW b A n c) 33) = w1 at *
  clear q3
  go_loopw [11] (fun i wr => ∃ k : Nat, k ≤ n ∧ i = .int .i64 k ∧ Ne.clK b o k = true ∧ Below w1.heap.size w1 wr) (fun i _ => n - (intOf i).toNat)
  case atStart => exact ⟨0, Nat.zero_le _, rfl, rfl, Below.refl _ _⟩
  case round =>
    obtain ⟨k, hk, rfl, hv, hb⟩ := hrel
    have HVK := Lib.hid hv
    clear hv
    by_cases hlt : k < n
    · obtain ⟨g, off, rfl, hg, hc⟩ := HF.out.at (z := Ne.zr) (by rw [HN.out]; omega)
      have hck := rangeAt_below (hc k (by rw [HN.out]; omega)) hg hb
      obtain ⟨f, hf⟩ : ∃ f, b.fs.getD k Ne.zr = f := ⟨_, rfl⟩
      obtain ⟨x, hx⟩ : ∃ x, Ne.apB o (Ne.crn f) 0 = x := ⟨_, rfl⟩
      have hvf := HVB.out.2.2.2.2 k (by rw [HN.out]; exact hlt)
      rw [hf] at hck hvf
      have HS : Hid (Ne.clK b o (k + 1) = x) := Lib.hid (by rw [Ne.clK, HVK.out, hf, hx]; rfl)
      have HX := Lib.hid hx
      have HVF := Lib.hid hvf
      have hin : (0 ≤ f.x ∧ f.x ≤ 60000) ∧ (0 ≤ f.y ∧ f.y ≤ 60000) ∧ (0 ≤ f.w ∧ f.w ≤ 60000) ∧ (0 ≤ f.h ∧ f.h ≤ 60000) := by
        have a1 := HVB.out.1.2
        have a2 := HVB.out.2.1.2
        unfold Ne.vF Ne.pc at hvf
        simp only [Bool.and_eq_true, decide_eq_true_eq] at hvf
        omega
      obtain ⟨⟨i1, i2⟩, ⟨i3, i4⟩, ⟨i5, i6⟩, i7, i8⟩ := hin
      clear hc hf hx hvf
      have bN := Blk.new wr 44 (Ne.rcL f).toArray
      have f0 := bN.cell 0
      have f1 := bN.cell 1
      have f2 := bN.cell 2
      have f3 := bN.cell 3
      simp only [List.getElem?_toArray, List.getElem?_cons_zero, List.getElem?_cons_succ] at f0 f1 f2 f3
      have hb2 := hb.alloc hb.size (.cells (Ne.rcL f).toArray 44)
      clear bN
      go_wp2_with (refine ldm_rc hck (by rfl) _ rfl rfl ?_)
      have hsz : (wr.alloc (.cells (Ne.rcL f).toArray 44)).heap.size = wr.heap.size + 1 := World.size_alloc _ _
      generalize wr.alloc (.cells (Ne.rcL f).toArray 44) = wa at *
      have bM := Blk.new wa 76 #[.int .i64 f.x, .int .i64 f.y, .int .i64 (f.x + f.w), .int .i64 f.y, .int .i64 (f.x + f.w), .int .i64 (f.y + f.h), .int .i64 f.x, .int .i64 (f.y + f.h)]
      rw [hsz] at bM
      have HPC : Hid (Pts _ (some ⟨wr.heap.size + 1, 0, none⟩) (Ne.crn f)) := Lib.hid (.inr ⟨wr.heap.size + 1, 0, rfl, bM.lt, fun k hk => by
        rw [Ne.crn_len] at hk
        have : k = 0 ∨ k = 1 ∨ k = 2 ∨ k = 3 := by omega
        rcases this with rfl | rfl | rfl | rfl
        · exact ⟨bM.cell 0, bM.cell 1⟩
        · exact ⟨bM.cell 2, bM.cell 3⟩
        · exact ⟨bM.cell 4, bM.cell 5⟩
        · exact ⟨bM.cell 6, bM.cell 7⟩⟩)
      have hb4 := hb2.alloc hb2.size (.cells #[.int .i64 f.x, .int .i64 f.y, .int .i64 (f.x + f.w), .int .i64 f.y, .int .i64 (f.x + f.w), .int .i64 (f.y + f.h), .int .i64 f.x, .int .i64 (f.y + f.h)] 76)
      refine (HA.out f HVF.out x HX.out _ _ (HO.out.below hb4) HPC.out).mono ?_
      rintro e w3 ⟨rfl, hb5⟩
      have hb6 := hb4.trans (hb5.mono hb4.size)
      cases x
      · go_wp2
        go_ret
        exact ⟨by rw [HNO.out k hlt HS.out]; rfl, hB.trans (hb6.mono hB.size)⟩
      · go_wp2
        go_roundw
        case rel => exact ⟨k + 1, by omega, by go_num, HS.out, hb6⟩
        case measure => simp [intOf]; omega
    · obtain rfl : k = n := by omega
      go_wp2
      go_ret
      exact ⟨by rw [HV.out, HVK.out]; rfl, hB.trans (hb.mono hB.size)⟩

namespace Ne
/-- one more box has room just where the count says -/
theorem bxs_lt {W L g : Int} (h0 : 0 ≤ W) (h1 : 1 ≤ L) (h2 : 0 ≤ g) (k : Nat) : (k : Int) * (L + g) + L ≤ W ↔ (k : Int) < bxs W L g := by
  unfold bxs
  rw [Int.tdiv_eq_ediv_of_nonneg (by omega)]
  have h := Int.le_ediv_iff_mul_le (a := (k : Int) + 1) (b := W + g) (c := L + g) (by omega)
  rw [Int.add_mul, Int.one_mul] at h
  omega
theorem bxs_nn {W L g : Int} (h0 : 0 ≤ W) (h1 : 1 ≤ L) (h2 : 0 ≤ g) : 0 ≤ bxs W L g := by
  unfold bxs
  exact Int.tdiv_nonneg (by omega) (by omega)
theorem bxs_room {W L g : Int} (h0 : 0 ≤ W) (h1 : 1 ≤ L) (h2 : 0 ≤ g) (k : Nat) (hk : (k : Int) ≤ bxs W L g) : 0 ≤ (k : Int) * (L + g) ∧ (k : Int) * (L + g) ≤ W + g := by
  refine ⟨Int.mul_nonneg (by omega) (by omega), ?_⟩
  cases k with
  | zero => simp; omega
  | succ k =>
    have := (bxs_lt h0 h1 h2 k).2 (by omega)
    rw [Int.natCast_add, Int.add_mul]
    omega
end Ne
set_option maxHeartbeats 1000000 in
theorem rboxes_b (W L g : Int) (h1 : 0 ≤ W) (h2 : W ≤ 60000) (h3 : 1 ≤ L) (h4 : L ≤ 60000) (h5 : 0 ≤ g) (h6 : g ≤ 2000) (r : Int) (hr : Ne.bxs W L g = r) (w : World) :
    Calls Try.prog 74 #[.int .i64 W, .int .i64 L, .int .i64 g] w fun e w' => e = .returned (.int .i64 r) ∧ w' = w := by
  have HS := Lib.hid (fun k => Ne.bxs_lt h1 h3 h5 k)
  have HRM := Lib.hid (fun k => Ne.bxs_room h1 h3 h5 k)
  obtain ⟨R, hR⟩ : ∃ R : Nat, r = R := ⟨r.toNat, by have := Ne.bxs_nn h1 h3 h5; omega⟩
  subst hR
  rw [hr] at HS HRM
  clear hr
  go_enter Try.func74, Try.ntmps74
  go_wp2
  go_loopw [7, 8] (fun i j wr => ∃ (k : Nat) (x : Int), k ≤ R ∧ i = .int .i64 k ∧ j = .int .i64 x ∧ x = k * (L + g) ∧ wr = w) (fun i _ _ => R - (intOf i).toNat)
  case atStart => exact ⟨0, 0, Nat.zero_le _, rfl, rfl, by simp, rfl⟩
  case round =>
    obtain ⟨k, x, hk, rfl, rfl, hx, rfl⟩ := hrel
    have hs := HS.out k
    have hm := HRM.out k (by omega)
    rw [← hx] at hs hm
    obtain ⟨m1, m2⟩ := hm
    by_cases hlt : k < R
    · have e1 : decide (x + L ≤ W) = true := by simp; omega
      have hR2 : (R : Int) ≤ 62000 := by
        rcases Nat.lt_or_ge 62000 R with h | h
        · exfalso
          have h7 := (HRM.out 62001 (by omega)).2
          have h8 : (62001 : Int) * 1 ≤ 62001 * (L + g) := Int.mul_le_mul_of_nonneg_left (by omega) (by omega)
          have h9 : ((62001 : Nat) : Int) * (L + g) = 62001 * (L + g) := rfl
          omega
        · omega
      have HX : Hid (x + (L + g) = ((k + 1 : Nat) : Int) * (L + g)) := Lib.hid (by rw [Int.natCast_add, Int.add_mul, hx]; simp)
      clear hs hx
      go_wp2
      go_roundw
      case rel => exact ⟨k + 1, x + (L + g), by omega, by go_num, by go_num, HX.out, trivial⟩
      case measure => simp [intOf]; omega
    · obtain rfl : k = R := by omega
      have e1 : decide (x + L ≤ W) = false := by simp; omega
      clear hs hx
      go_wp2
      go_ret
      exact ⟨rfl, rfl⟩
end Go.Proofs.Ytlikmlhlfbdchaa
/- nest: Rows of the document. -/
namespace Go.Proofs.Ytlikmlhlfbdchaa
open Go.RowKit Go.Shelf
/-- only number i may come up -/
theorem wpAnyH_oneE {P : Program} {md : Region.Mode} {ops : Array Oper} {Q : Exit → Act → World → Prop} {S : World → Prop} {i fuel : Nat} {listed : Array Bool} {o : Oper} {a : Act} {w : World} (hr : Region.ready md ops listed = [i])
    (ho : ops[i]? = some o) (hw : Region.wanted o (yielded ops a.tmps) = true)
    (h : ∀ K' : Act → World → Prop, (∀ a' w', (S w' ∧ wpAnyH P md ops Q S fuel (listed.setIfInBounds i true) a' w') → K' a' w') → Oper.wp P o a w K' Q) : wpAnyH P md ops Q S (fuel + 1) listed a w :=
  wpAnyH_all hr (by simp) (fun j hj => by rw [List.mem_singleton.1 hj]; exact wpOp_goE ho hw h)
namespace Ne
theorem gp_at (q : Int) (g : Gr) {ac j : Nat} (k : Nat) (hj : j < ac) : gp q g ac (k * ac + j) = ⟨q, g.fx + (j : Int) * g.sx, g.fy + (k : Int) * g.sy, false⟩ := by
  unfold gp
  rw [show (k * ac + j) % ac = j by rw [Nat.mul_comm, Nat.mul_add_mod, Nat.mod_eq_of_lt hj], show (k * ac + j) / ac = k by rw [Nat.mul_comm, Nat.mul_add_div (by omega), Nat.div_eq_of_lt hj]; rfl]
end Ne
set_option maxRecDepth 100000 in
set_option maxHeartbeats 16000000 in
theorem rRows_b (b : Ne.Bo) (A B : Option Addr) (l : List Ne.Pa) (n c m c' : Nat) (i : Int) (hn : b.fs.length = n) (hm : l.length = m) (hnM : n ≤ maxLen) (hmM : m ≤ maxLen) (E : Int) (hE : Ne.roE b l i = E) (R : List Ne.Pc) (hR : Ne.roV b l i = R)
    (w : World) (hF : Rows Ne.rcL 4 w A b.fs) (hP : Ne.PaM w B l) :
    Calls Try.prog 34 #[.agg (boW b A n c), .slice B m c', .int .i64 i] w fun e w' => ∃ v, e = .returned (.tuple #[v, .int .i64 E]) ∧ w'.ownsRow w.heap.size 40 4 v R.length (flt Ne.pcL R) ∧ Below w.heap.size w w' := by
  obtain ⟨E0, hE0⟩ : ∃ E0, Ne.cpE b l i = E0 := ⟨_, rfl⟩
  have hB0 := (Below.refl w.heap.size w).alloc (Nat.le_refl _) (.cells (boW b A n c) 33)
  have bB := Blk.new w 33 (boW b A n c)
  obtain ⟨x, hx⟩ : ∃ x, Ne.vAll b l = x := ⟨_, rfl⟩
  have HC := Lib.hid (fun W h h' => rValid_b b A B c n c' m l hn hm hnM hmM x hx W h h')
  have hrg := bB.range
  have HF := Lib.hid hF
  have HP := Lib.hid hP
  clear hF hP
  by_cases h0 : E0 = 0
  · subst h0
    obtain ⟨hvb, hvp, q, rfl, hq⟩ := Ne.cpE_ok hE0
    have hx1 : x = true := by rw [← hx]; unfold Ne.vAll; rw [hvb, hvp]; rfl
    subst hx1
    have hvq := Ne.vPa_at hvp hq
    obtain ⟨g1, g2, g3, g4⟩ := Ne.ac_nat (l := l) hvb hvq
    rw [Ne.roE_nat hE0] at hE
    rw [Ne.roV_nat hE0] at hR
    obtain ⟨ac, hac⟩ : ∃ ac, Ne.acs b l q = ac := ⟨_, rfl⟩
    obtain ⟨up, hup⟩ : ∃ up, Ne.ups b l q = up := ⟨_, rfl⟩
    rw [hac] at g1 g3 hE hR
    rw [hup] at g2 g4 hE hR
    have hvi := Ne.vBo_in hvb
    obtain ⟨N, hN⟩ : ∃ N, (l.getD q Ne.za).o.length = N := ⟨_, rfl⟩
    obtain ⟨G, hG⟩ : ∃ G, Ne.grd b (l.getD q Ne.za) = G := ⟨_, rfl⟩
    have hval := valid_of hvq
    have h3 := hval.1
    have h64 := hval.2.1
    rw [hN] at h3 h64
    obtain ⟨T, hTT⟩ : ∃ T, ac * up = T := ⟨_, rfl⟩
    have HGP := Lib.hid (fun i (hi : i < T) => Ne.gp_ok (i := i) (by omega) (by omega) hvi.2.2.1.1 hvq g1 g2 (by rw [hTT]; exact hi))
    obtain ⟨d, hd⟩ : ∃ d, Ne.ard (l.getD q Ne.za).o = d := ⟨_, rfl⟩
    have hard := Ne.ard_bd hval
    rw [hd] at hard
    have hGd : G.fx = -d.x ∧ G.fy = -d.y ∧ G.sx = d.w + b.g ∧ G.sy = d.h + b.g := by rw [← hG, ← hd]; exact ⟨rfl, rfl, rfl, rfl⟩
    have e1 : Ne.bxs b.w d.w b.g = ac := by rw [← g1, ← hd]; rfl
    have e2 : Ne.bxs b.h d.h b.g = up := by rw [← g2, ← hd]; rfl
    rw [hG] at HGP hR
    rw [hTT] at hE hR
    obtain ⟨hx0, hy0⟩ : ∃ hx hy : Int, hx - d.x = d.w ∧ hy - d.y = d.h := ⟨d.x + d.w, d.y + d.h, by omega, by omega⟩
    obtain ⟨hy0, hxw, hyh⟩ := hy0
    have HEN : Hid (∀ D c1 W, Pts W D (l.getD q Ne.za).o → Calls Try.prog 63 #[.slice D N c1] W fun e w' => e = .returned (.tuple #[.agg #[.int .i64 d.x, .int .i64 d.y], .agg #[.int .i64 hx0, .int .i64 hy0]]) ∧ Below W.heap.size W w') := Lib.hid (fun D c1 W hW => by
      obtain ⟨b3, off3, rfl, hb3, hc3⟩ := pts_open hW (by omega)
      have H := ends_w b3 off3 c1 (l.getD q Ne.za).o (by omega) (by omega) W hb3 hc3
      obtain ⟨l1, l2, l3, l4⟩ := Ne.low_lo (l := (l.getD q Ne.za).o) (by omega)
      rw [l1, l2, l3, l4] at H
      have hdd : d = ⟨Ne.lo1 (1, 0) (l.getD q Ne.za).o, Ne.lo1 (0, 1) (l.getD q Ne.za).o, Ne.hi1 (1, 0) (l.getD q Ne.za).o - Ne.lo1 (1, 0) (l.getD q Ne.za).o, Ne.hi1 (0, 1) (l.getD q Ne.za).o - Ne.lo1 (0, 1) (l.getD q Ne.za).o⟩ := by rw [← hd]; unfold Ne.ard; rw [if_neg (by omega)]
      have d1 : Ne.lo1 (1, 0) (l.getD q Ne.za).o = d.x := by rw [hdd]
      have d2 : Ne.lo1 (0, 1) (l.getD q Ne.za).o = d.y := by rw [hdd]
      have d3 : Ne.hi1 (1, 0) (l.getD q Ne.za).o - Ne.lo1 (1, 0) (l.getD q Ne.za).o = d.w := by rw [hdd]
      have d4 : Ne.hi1 (0, 1) (l.getD q Ne.za).o - Ne.lo1 (0, 1) (l.getD q Ne.za).o = d.h := by rw [hdd]
      rw [d1, d2, show Ne.hi1 (1, 0) (l.getD q Ne.za).o = hx0 by omega, show Ne.hi1 (0, 1) (l.getD q Ne.za).o = hy0 by omega, hN] at H
      exact H)
    have HLY := Lib.hid (fun i (hi : i < T) W (hW : Ne.PaM W B l) => rlying_b B l c' m q hm (by omega) (Ne.gp q G ac i).x (Ne.gp q G ac i).y false (by have := (HGP.out i hi).2.1; omega) (by have := (HGP.out i hi).2.2; omega) hvq N hN (Ne.lyg l (Ne.gp q G ac i)) rfl W hW)
    have HIB := Lib.hid (fun i (hi : i < T) x (hx : Ne.clB b (Ne.lyg l (Ne.gp q G ac i)) = x) C d' W (h1 : Rows Ne.rcL 4 W A b.fs) (h2 : Pts W C (Ne.lyg l (Ne.gp q G ac i))) =>
      rclear_b b A C (Ne.lyg l (Ne.gp q G ac i)) n c N d' hn (by rw [Ne.lyg_len]; show (l.getD ((q : Nat) : Int).toNat Ne.za).o.length = N; simpa using hN) h3 h64 hvb ((HGP.out i hi).1.allbd hvi.1.2 hvi.2.1.2) (Ne.dir_lyg (by show validB (l.getD ((q : Nat) : Int).toNat Ne.za).o = true; simpa using hvq)) x hx W h1 h2)
    have HGL := Lib.hid (fun i => show (Ne.lyg l (Ne.gp q G ac i)).length = N by rw [Ne.lyg_len]; show (l.getD ((q : Nat) : Int).toNat Ne.za).o.length = N; simpa using hN)
    have HR := Lib.hid hR
    have HE := Lib.hid hE
    have HSN := Lib.hid (fun i => Ne.rwK_succ b l q G ac i)
    have HST := Lib.hid (fun i (h : (Ne.rwK b l q G ac i).length = 200) (j : Nat) (hj : i ≤ j) => Ne.rwK_stop h hj)
    have HLN := Lib.hid (fun i => Ne.rwK_len b l q G ac i)
    have HGA := Lib.hid (fun k {j} (hj : j < ac) => Ne.gp_at q G k hj)
    have HTT := Lib.hid hTT
    have HGD := Lib.hid hGd
    have HN := Lib.hid hN
    have HM := Lib.hid hm
    obtain ⟨⟨x1, x2⟩, ⟨y1, y2⟩, ⟨wi1, wi2⟩, ta1, ta2⟩ := hard
    obtain ⟨⟨bw1, bw2⟩, ⟨bh1, bh2⟩, ⟨bg1, bg2⟩, _, _⟩ := hvi
    have HB1 := Lib.hid (fun W => (rboxes_b b.w d.w b.g (by omega) bw2 wi1 (by omega) bg1 bg2 ac e1 W).mono (R' := fun e w' => e = .returned (.int .i64 ac) ∧ Below W.heap.size W w') (fun e w' h => ⟨h.1, by rw [h.2]; exact Below.refl _ _⟩))
    have HB2 := Lib.hid (fun W => (rboxes_b b.h d.h b.g (by omega) bh2 ta1 (by omega) bg1 bg2 up e2 W).mono (R' := fun e w' => e = .returned (.int .i64 up) ∧ Below W.heap.size W w') (fun e w' h => ⟨h.1, by rw [h.2]; exact Below.refl _ _⟩))
    have HX1 : Hid (∀ k : Nat, (k : Int) * (d.w + b.g) + d.w ≤ b.w ↔ k < ac) := Lib.hid (fun k => by have := Ne.bxs_lt (W := b.w) (L := d.w) (g := b.g) (by omega) wi1 bg1 k; rw [e1] at this; omega)
    have HX2 : Hid (∀ k : Nat, (k : Int) * (d.h + b.g) + d.h ≤ b.h ↔ k < up) := Lib.hid (fun k => by have := Ne.bxs_lt (W := b.h) (L := d.h) (g := b.g) (by omega) ta1 bg1 k; rw [e2] at this; omega)
    have HM1 : Hid (∀ k : Nat, k ≤ ac → 0 ≤ (k : Int) * (d.w + b.g) ∧ (k : Int) * (d.w + b.g) ≤ b.w + b.g) := Lib.hid (fun k hk => Ne.bxs_room (by omega) wi1 bg1 k (by rw [e1]; omega))
    have HM2 : Hid (∀ k : Nat, k ≤ up → 0 ≤ (k : Int) * (d.h + b.g) ∧ (k : Int) * (d.h + b.g) ≤ b.h + b.g) := Lib.hid (fun k hk => Ne.bxs_room (by omega) ta1 bg1 k (by rw [e2]; omega))
    obtain ⟨i0, hi0, hz0, hn0, hyy0⟩ := info_parts infoPc3
    have hqm : (q : Int) < (m : Int) := by omega
    have hge : decide ((m : Int) ≤ (q : Int)) = false := by simp; omega
    have hT' : (ac : Int) * (up : Int) = (T : Int) := by rw [← hTT]; simp
    have hTb : T ≤ 3844000000 := by rw [← hTT]; exact Nat.mul_le_mul g3 g4
    obtain ⟨gP, off, hBe, hgP, hcP⟩ := HP.out.open (by rw [HM.out]; omega)
    obtain ⟨D, dc, d1, d2, d3, d4⟩ := hcP q (by rw [HM.out]; omega)
    rw [HN.out] at d1 d4
    obtain ⟨tt, htt⟩ : ∃ tt, (l.getD q Ne.za).t = tt := ⟨_, rfl⟩
    rw [htt] at d2
    have HD3 := Lib.hid d3
    clear hcP htt d3
    subst hBe
    clear hE hR hE0 hvb hvp hvq hac hup hN hG hn hm hx hd hTT hGd hval g1 g2 e1 e2
    go_enter Try.func34, Try.ntmps34
    go_wp2_with (refine ldm_bo hrg (by rfl) _ rfl rfl (Hid.out ?_))
    refine Lib.hid ?_
    go_wp2_with fail
    refine (HC.out _ (HF.out.below hB0) (HP.out.below hB0)).mono ?_
    rintro e w1 ⟨rfl, hb1⟩
    have bB1 := bB.below hb1 bB.lt
    have hB1 := hB0.trans (hb1.mono hB0.size)
    have dd1 : w1.cell? ⟨gP, off + q * 2, none⟩ = some (.slice D N dc) := (hB1.cell (p := ⟨gP, off + q * 2, none⟩) hgP).trans d1
    have HDB := Lib.hid (HD3.out.below hB1)
    clear bB hrg hB0 hb1 HC d1 d2
    go_wp2_with fail
    refine (HEN.out D dc w1 HDB.out).mono ?_
    rintro e w2 ⟨rfl, hb2⟩
    have bB2 := bB1.below hb2 bB1.lt
    have hB2 := hB1.trans (hb2.mono hB1.size)
    clear dd1 HDB bB1 hB1 hb2
    go_wp2
    have bB3 := (bB2.alloc (.cells #[.int .i64 d.x, .int .i64 d.y] 76)).alloc (.cells #[.int .i64 hx0, .int .i64 hy0] 76)
    have bL := (Blk.new w2 76 #[.int .i64 d.x, .int .i64 d.y]).alloc (.cells #[.int .i64 hx0, .int .i64 hy0] 76)
    have bH := Blk.new (w2.alloc (.cells #[.int .i64 d.x, .int .i64 d.y] 76)) 76 #[.int .i64 hx0, .int .i64 hy0]
    rw [World.size_alloc] at bH
    have hB3 := (hB2.alloc hB2.size (.cells #[.int .i64 d.x, .int .i64 d.y] 76)).alloc (by have := hB2.size; simp; omega) (.cells #[.int .i64 hx0, .int .i64 hy0] 76)
    generalize (w2.alloc (.cells #[.int .i64 d.x, .int .i64 d.y] 76)).alloc (.cells #[.int .i64 hx0, .int .i64 hy0] 76) = w3 at *
    have hlg := hB2.size
    generalize w2.heap.size = gl at *
    clear hB2 bB2
    have p0 := bL.cell 0
    have p1 := bL.cell 1
    have p2 := bH.cell 0
    have p3 := bH.cell 1
    simp only [List.getElem?_toArray, List.getElem?_cons_zero, List.getElem?_cons_succ] at p0 p1 p2 p3
    go_quiet (fail)
    have bB4 : Blk (w3.drewN nq) w.heap.size 33 (boW b A n c) := bB3
    have bL4 : Blk (w3.drewN nq) gl 76 #[.int .i64 d.x, .int .i64 d.y] := bL
    have hB4 := Go.Proofs.Ytlikmlhlfbdchaa.Below.drewN (n := nq) hB3
    clear bB3 bL bH hB3 p0 p1 p2 p3 hxw hyh HEN
    generalize w3.drewN nq = w4 at *
    have p0 : ∀ s : Ext w4, s.w.cell? ⟨w.heap.size, 0, none⟩ = some (.int .i64 b.w) := fun s => s.cell (bB4.cell 0)
    have p1 : ∀ s : Ext w4, s.w.cell? ⟨w.heap.size, 1, none⟩ = some (.int .i64 b.h) := fun s => s.cell (bB4.cell 1)
    have p2 : ∀ s : Ext w4, s.w.cell? ⟨w.heap.size, 2, none⟩ = some (.int .i64 b.g) := fun s => s.cell (bB4.cell 2)
    have hwr : IntKind.i64.wrap ((ac : Int) * (up : Int)) = (T : Int) := by rw [hT']; exact IntWalk.i64_in _ (by omega)
    go_wp2
    refine wp_region_ext (by kernel_rfl) (by kernel_rfl) ?_
    iterate 6 (go_big_quiet_step ((go_at_call 74; refine calls_ext (HB1.out _))))
    repeat (go_big_quiet_step ((go_at_call 74; refine calls_ext (HB2.out _))))
    refine wpQuiet_nil ?_
    rintro _ ⟨s5, rfl⟩
    have bB5 := bB4.below s5.h bB4.lt
    have bL5 := bL4.below s5.h bL4.lt
    have hB5 := hB4.trans (s5.h.mono hB4.size)
    clear p0 p1 p2 bB4 bL4 hB4
    generalize s5.w = w5 at *
    by_cases hbig : 10000 < T
    · have h1 := HE.out
      have h2 := HR.out
      rw [if_pos hbig] at h1 h2
      subst h1 h2
      have dbig : decide ((10000 : Int) < (T : Int)) = true := by simp; omega
      go_wp2
      go_ret2
      exact ⟨.slice none 0 0, rfl, World.ownsRow_nil _ _ _ _, hB5⟩
    have h1 := HE.out
    have h2 := HR.out
    rw [if_neg hbig] at h1 h2
    subst h1
    have HRR := Lib.hid h2
    have dbig : decide ((10000 : Int) < (T : Int)) = false := by simp; omega
    clear h2
    go_wp2
    clear hwr dbig
    go_loopw [12, 13] (fun v yv wr => ∃ (k : Nat) (y : Int), k ≤ up ∧ yv = .int .i64 y ∧ y = k * (d.h + b.g) ∧ (Ne.rwK b l q G ac (k * ac)).length < 200 ∧ wr.ownsRow w5.heap.size 40 4 v (Ne.rwK b l q G ac (k * ac)).length (flt Ne.pcL (Ne.rwK b l q G ac (k * ac))) ∧ Below w5.heap.size w5 wr) (fun _ yv _ => (b.h + 1 - intOf yv).toNat)
    case atStart => exact ⟨0, 0, Nat.zero_le _, rfl, by simp, by rw [Nat.zero_mul]; simp [Ne.rwK], by rw [Nat.zero_mul]; exact World.ownsRow_nil _ _ _ _, Below.refl _ _⟩
    case round =>
      obtain ⟨k, y, hk, rfl, hy, hl2, hO, hB⟩ := hrel
      obtain ⟨wo, rfl⟩ : ∃ wo, wo = wr := ⟨_, rfl⟩
      have hm2 := HM2.out k hk
      have hx2 := HX2.out k
      rw [← hy] at hm2 hx2
      obtain ⟨ym1, ym2⟩ := hm2
      have HY := Lib.hid hy
      by_cases hlt : k < up
      · have dy : decide (y + d.h ≤ b.h) = true := by simp; omega
        have HYN : Hid (y + (d.h + b.g) = ((k + 1 : Nat) : Int) * (d.h + b.g)) := Lib.hid (by rw [Int.natCast_add, Int.add_mul, hy]; simp)
        have HDY : Hid (y + d.h ≤ b.h) := Lib.hid (by omega)
        have c1 : wo.cell? ⟨w.heap.size, 1, none⟩ = some (.int .i64 b.h) := (bB5.below hB bB5.lt).cell 1
        clear hx2 hy
        go_wp2
        go_loopw [12, 14] (fun v xv wr => ∃ (j : Nat) (x : Int), j ≤ ac ∧ xv = .int .i64 x ∧ x = j * (d.w + b.g) ∧ wr.ownsRow w5.heap.size 40 4 v (Ne.rwK b l q G ac (k * ac + j)).length (flt Ne.pcL (Ne.rwK b l q G ac (k * ac + j))) ∧ Below w5.heap.size w5 wr) (fun _ xv _ => (b.w + 1 - intOf xv).toNat)
        case atStart => exact ⟨0, 0, Nat.zero_le _, rfl, by simp, hO, hB⟩
        case round =>
          clear hO hB c1 dy
          obtain ⟨j, x, hj, rfl, hx, hO2, hB2⟩ := hrel
          have hm1 := HM1.out j hj
          have hx1 := HX1.out j
          rw [← hx] at hm1 hx1
          obtain ⟨xm1, xm2⟩ := hm1
          have bB6 := bB5.below hB2 bB5.lt
          have bL6 := bL5.below hB2 bL5.lt
          have c0 := bB6.cell 0
          have c1 := bB6.cell 1
          have c2 := bB6.cell 2
          have e0 := bL6.cell 0
          have e1 := bL6.cell 1
          simp only [List.getElem?_toArray, List.getElem?_cons_zero, List.getElem?_cons_succ] at c0 c1 c2 e0 e1
          by_cases hlj : j < ac
          · have dx : decide (x + d.w ≤ b.w) = true := by simp; omega
            have HXN : Hid (x + (d.w + b.g) = ((j + 1 : Nat) : Int) * (d.w + b.g)) := Lib.hid (by rw [Int.natCast_add, Int.add_mul, hx]; simp)
            have HDX : Hid (x + d.w ≤ b.w) := Lib.hid (by omega)
            have hiT : k * ac + j < T := by
              have := Nat.mul_le_mul_right ac (show k + 1 ≤ up by omega)
              rw [Nat.add_mul, Nat.mul_comm up ac, HTT.out] at this
              omega
            have hgp : Ne.gp q G ac (k * ac + j) = ⟨q, x - d.x, y - d.y, false⟩ := by
              obtain ⟨g1, g2, g3, g4⟩ := HGD.out
              rw [HGA.out k hlj, g1, g2, g3, g4, ← hx, ← HY.out, show -d.x + x = x - d.x by omega, show -d.y + y = y - d.y by omega]
            obtain ⟨X, hX⟩ : ∃ X, x - d.x = X := ⟨_, rfl⟩
            obtain ⟨Y, hY⟩ : ∃ Y, y - d.y = Y := ⟨_, rfl⟩
            rw [hX, hY] at hgp
            have HLYi := HLY.out _ hiT
            have HIBi := HIB.out _ hiT
            have HGLi := HGL.out (k * ac + j)
            have HSNi := HSN.out (k * ac + j)
            have HLNi := HLN.out (k * ac + j)
            rw [hgp] at HLYi HIBi HGLi HSNi
            obtain ⟨PL, hPL⟩ : ∃ PL, Ne.lyg l ⟨q, X, Y, false⟩ = PL := ⟨_, rfl⟩
            obtain ⟨z, hz⟩ : ∃ z, Ne.clB b PL = z := ⟨_, rfl⟩
            rw [hPL] at HLYi HIBi HGLi HSNi
            rw [hz] at HSNi
            obtain ⟨ln, hln⟩ : ∃ ln, (Ne.rwK b l q G ac (k * ac + j)).length = ln := ⟨_, rfl⟩
            rw [hln] at hO2 HSNi HLNi
            have HLY1 := Lib.hid HLYi
            have HIB1 := Lib.hid (HIBi z hz)
            have HGL1 := Lib.hid HGLi
            have HLN1 := Lib.hid hln
            have HSN1 : Hid (Ne.rwK b l q G ac (k * ac + (j + 1)) = if ln = 200 then Ne.rwK b l q G ac (k * ac + j) else if z = true then Ne.rwK b l q G ac (k * ac + j) ++ [⟨q, X, Y, false⟩] else Ne.rwK b l q G ac (k * ac + j)) := Lib.hid HSNi
            obtain ⟨A9, c9, hv9⟩ := own_slice hO2
            subst hv9
            have HXX : Hid (X = x - d.x) := Lib.hid hX.symm
            have bx1 : -5000 ≤ X ∧ X ≤ 70000 := by omega
            have by1 : -5000 ≤ Y ∧ Y ≤ 70000 := by omega
            obtain ⟨bx1, bx2⟩ := bx1
            obtain ⟨by1, by2⟩ := by1
            have HO2 := Lib.hid hO2
            clear hx1 hx hgp HLYi HIBi HSNi HGLi hPL hz hln hiT hO2
            go_wp2
            have bB7 := bB6.alloc (.cells (Ne.pcL ⟨q, X, Y, false⟩).toArray 40)
            have bP7 := Blk.new wr 40 (Ne.pcL ⟨q, X, Y, false⟩).toArray
            have hB7 := hB2.alloc hB2.size (.cells (Ne.pcL ⟨q, X, Y, false⟩).toArray 40)
            have hO7 := HO2.out.alloc (.cells (Ne.pcL ⟨q, X, Y, false⟩).toArray 40)
            clear e0 e1 c0 c1 bL6
            have hgl8 : w.heap.size ≤ wr.heap.size := by have := hB5.size; have := hB2.size; omega
            generalize hwe : wr.alloc (.cells (Ne.pcL ⟨q, X, Y, false⟩).toArray 40) = we at *
            clear hwe
            by_cases h200 : ln = 200
            · have dl : decide ((ln : Int) < 200) = false := by simp; omega
              have h9 := HSN1.out
              rw [if_pos h200] at h9
              have HS9 : Hid ((Ne.rwK b l q G ac (k * ac + (j + 1))).length = ln ∧ flt Ne.pcL (Ne.rwK b l q G ac (k * ac + (j + 1))) = flt Ne.pcL (Ne.rwK b l q G ac (k * ac + j))) := Lib.hid (by rw [h9]; exact ⟨HLN1.out, rfl⟩)
              clear h9
              go_quiet (fail)
              have bB8 : Blk (we.drewN nq) w.heap.size 33 (boW b A n c) := bB7
              have hB8 := Go.Proofs.Ytlikmlhlfbdchaa.Below.drewN (n := nq) hB7
              have HO8 : Hid ((we.drewN nq).ownsRow w5.heap.size 40 4 (.slice A9 ln c9) ln (flt Ne.pcL (Ne.rwK b l q G ac (k * ac + j)))) := Lib.hid hO7
              clear bB7 hB7 hO7 bP7
              generalize we.drewN nq = wf at *
              have c2 := bB8.cell 2
              simp only [List.getElem?_toArray, List.getElem?_cons_zero, List.getElem?_cons_succ] at c2
              go_wp2
              go_roundw
              case rel => exact ⟨j + 1, _, by omega, rfl, HXN.out, by rw [HS9.out.1, HS9.out.2]; exact HO8.out, hB8⟩
              case measure => have := HDX.out; simp [intOf]; omega
            · have dl : decide ((ln : Int) < 200) = true := by simp; omega
              have hl200 : ln < 200 := by omega
              have h9 := HSN1.out
              rw [if_neg h200] at h9
              have HS8 := Lib.hid h9
              have HLB : Hid (ln < 200) := Lib.hid hl200
              clear h9 HSN1
              refine wp_region_noPanic ?_
              refine wp_region_held (S := fun V => Below we.heap.size we V) (by kernel_rfl) ?_
              change wpAnyH _ _ _ _ _ _ _ _ (World.drew _)
              have hS : (fun V => Below we.heap.size we V) we.drew := (Below.refl _ _).drew
              have p0 := bB7.cell 0
              have p1 := bB7.cell 1
              have p2 := bB7.cell 2
              have p3 := bB7.cell 3
              have r0 := bP7.cell 0
              have r1 := bP7.cell 1
              have r2 := bP7.cell 2
              have r3 := bP7.cell 3
              have l1 := bB7.lt
              have l2 := bP7.lt
              simp only [List.getElem?_toArray, List.getElem?_cons_zero, List.getElem?_cons_succ] at p0 p1 p2 p3 r0 r1 r2 r3
              generalize World.drew we = V0 at *
              refine takeD (i := 0) (d := some 95) (v := ?_) rfl rfl (by kernel_rfl) (by decide +kernel) (by decide +kernel) (fun _ _ _ h => h) (Or.inl ⟨by first | kernel_rfl | rfl, ?_⟩) hS ?_
              rotate_left
              · intro w' hT; first | (go_simp; done) | (go_simp; with_reducible rfl)
              refine takeD (i := 1) (d := some 96) (v := ?_) rfl rfl (by kernel_rfl) (by decide +kernel) (by decide +kernel) (fun _ _ _ h => h) (Or.inl ⟨by first | kernel_rfl | rfl, ?_⟩) hS ?_
              rotate_left
              · intro w' hT; first | (go_simp; done) | (go_simp; with_reducible rfl)
              refine takeD (i := 2) (d := some 97) (v := .bool true) rfl rfl (by kernel_rfl) (by decide +kernel) (by decide +kernel) (fun _ _ _ h => h) (Or.inl ⟨by first | kernel_rfl | rfl, ?_⟩) hS ?_
              · intro w' hT; first | (go_simp; done) | (go_simp; simp [dl])
              refine takeD (i := 3) (d := some 98) (v := ?_) rfl rfl (by kernel_rfl) (by decide +kernel) (by decide +kernel) (fun _ _ _ h => h) (Or.inl ⟨by first | kernel_rfl | rfl, ?_⟩) hS ?_
              rotate_left
              · intro w' hT; first | (go_simp; done) | (go_simp; with_reducible rfl)
              refine takeD (i := 4) (d := some 99) (v := ?_) rfl rfl (by kernel_rfl) (by decide +kernel) (by decide +kernel) (fun _ _ _ h => h) (Or.inl ⟨by first | kernel_rfl | rfl, ?_⟩) hS ?_
              rotate_left
              · intro w' hT; have t0 := (Below.cell hT (p := ⟨w.heap.size, 0, none⟩) l1).trans p0; have t1 := (Below.cell hT (p := ⟨w.heap.size, 1, none⟩) l1).trans p1; have t2 := (Below.cell hT (p := ⟨w.heap.size, 2, none⟩) l1).trans p2; have t3 := (Below.cell hT (p := ⟨w.heap.size, 3, none⟩) l1).trans p3; first | (go_simp; done) | (go_simp; with_reducible rfl)
              refine takeD (i := 5) (d := some 100) (v := ?_) rfl rfl (by kernel_rfl) (by decide +kernel) (by decide +kernel) (fun _ _ _ h => h) (Or.inl ⟨by first | kernel_rfl | rfl, ?_⟩) hS ?_
              rotate_left
              · intro w' hT; first | (go_simp; done) | (go_simp; with_reducible rfl)
              refine takeD (i := 6) (d := some 101) (v := ?_) rfl rfl (by kernel_rfl) (by decide +kernel) (by decide +kernel) (fun _ _ _ h => h) (Or.inl ⟨by first | kernel_rfl | rfl, ?_⟩) hS ?_
              rotate_left
              · intro w' hT; have t0 := (Below.cell hT (p := ⟨wr.heap.size, 0, none⟩) l2).trans r0; have t1 := (Below.cell hT (p := ⟨wr.heap.size, 1, none⟩) l2).trans r1; have t2 := (Below.cell hT (p := ⟨wr.heap.size, 2, none⟩) l2).trans r2; have t3 := (Below.cell hT (p := ⟨wr.heap.size, 3, none⟩) l2).trans r3; first | (go_simp; done) | (go_simp; with_reducible rfl)
              refine wpAnyH_oneE (i := 7) (by decide +kernel) rfl (by kernel_rfl) (fun K hK' => ?_)
              go_simp
              have hB8 := hB7.trans (Below.mono hS hB7.size)
              have hV0 : Below w.heap.size w V0 := hB5.trans (hB8.mono hB5.size)
              refine (HLY1.out V0 (HP.out.below hV0)).mono ?_
              rintro e V1 ⟨v, rfl, hLO, hb1⟩
              have hS1 := Below.trans hS (hb1.mono (Below.size hS))
              refine hK' _ _ ⟨hS1, ?_⟩
              clear hK' K
              have hLO' : V1.ownsRow V0.heap.size 76 2 v PL.length (flat PL) := by rw [HGL1.out]; exact hLO
              obtain ⟨C, d9, hvC, hpl, hcd⟩ := pts_of_owns' hLO'
              rw [HGL1.out] at hvC hcd
              subst hvC
              have HPL := Lib.hid hpl
              have hV1 := hV0.trans (hb1.mono hV0.size)
              clear hLO hLO' hpl hb1
              refine wpAnyH_oneE (i := 8) (by decide +kernel) rfl (by kernel_rfl) (fun K hK' => ?_)
              go_simp
              refine (HIB1.out C d9 V1 (HF.out.below hV1) HPL.out).mono ?_
              rintro e V2 ⟨rfl, hb2⟩
              have hS2 := Below.trans hS1 (hb2.mono (Below.size hS1))
              refine hK' _ _ ⟨hS2, ?_⟩
              clear hK' K
              refine takeD (i := 9) (d := some 104) (v := .bool z) rfl rfl (by kernel_rfl) (by decide +kernel) (by decide +kernel) (fun _ _ _ h => h) (Or.inl ⟨by first | kernel_rfl | rfl, ?_⟩) hS2 ?_
              · intro w' hT; first | (go_simp; done) | (go_simp; with_reducible rfl)
              refine wpAnyH_done (by decide +kernel) ?_ _
              refine NoPanic.normal ?_
              have hB10 := hB7.trans (Below.mono hS2 hB7.size)
              have hO10 := own_keepE hO7 hS2
              have bP10 := bP7.below hS2 bP7.lt
              have bB10 := bB7.below hS2 bB7.lt
              have hrP := bP10.range
              have c2 := bB10.cell 2
              simp only [List.getElem?_toArray, List.getElem?_cons_zero, List.getElem?_cons_succ] at c2
              clear p0 p1 p2 p3 r0 r1 r2 r3 l1 l2 hO7 bP7 bB7
              cases z with
              | false =>
                have h9 := HS8.out
                rw [if_neg (by simp)] at h9
                have HS9 : Hid ((Ne.rwK b l q G ac (k * ac + (j + 1))).length = ln ∧ flt Ne.pcL (Ne.rwK b l q G ac (k * ac + (j + 1))) = flt Ne.pcL (Ne.rwK b l q G ac (k * ac + j))) := Lib.hid (by rw [h9]; exact ⟨HLN1.out, rfl⟩)
                have HO10 := Lib.hid hO10
                clear h9 hrP bP10 hO10
                go_wp2
                go_roundw
                case rel => exact ⟨j + 1, _, by omega, rfl, HXN.out, by rw [HS9.out.1, HS9.out.2]; exact HO10.out, hB10⟩
                case measure => have := HDX.out; simp [intOf]; omega
              | true =>
                have h9 := HS8.out
                rw [if_pos rfl] at h9
                have HE9 : Hid ((Ne.rwK b l q G ac (k * ac + (j + 1))).length = ln + 1 ∧ flt Ne.pcL (Ne.rwK b l q G ac (k * ac + (j + 1))) = flt Ne.pcL (Ne.rwK b l q G ac (k * ac + j)) ++ Ne.pcL ⟨q, X, Y, false⟩) := Lib.hid (by rw [h9, List.length_append, flt_append, flt_one, HLN1.out]; exact ⟨rfl, rfl⟩)
                have HOW := Lib.hid (hO10.alloc (.cells (Ne.pcL ⟨q, X, Y, false⟩).toArray 40))
                have HLT := Lib.hid hO10.lt
                have bB11 := bB10.alloc (.cells (Ne.pcL ⟨q, X, Y, false⟩).toArray 40)
                have hOB : w5.heap.size ≤ (V2.alloc (.cells (Ne.pcL ⟨q, X, Y, false⟩).toArray 40)).heap.size := by have := hB10.size; simp; omega
                have hB11 := hB10.alloc hB10.size (.cells (Ne.pcL ⟨q, X, Y, false⟩).toArray 40)
                clear h9 hO10 bP10
                go_wp2_with (first | refine ldm_pc hrP (by rfl) _ rfl rfl ?_ | (at_builtin; refine wpList_append_own _ rfl _ _ 35 rfl w5.heap.size 40 i0 _ 4 32 Try.underlying35 hi0 hz0 hn0 hyy0 rfl (by decide) _ _ _ rfl HOW.out ⟨V2.heap.size, 0, none⟩ 1 1 (Ne.pcL ⟨q, X, Y, false⟩) rfl rfl (new_cells' _ _ _ rfl) (Ne.encPc.one _) (by unfold maxLen; omega) (by omega) (by have := hB10.size; simp; omega) ?_; intro v' w9 hown' hgrow _; obtain ⟨A8, c8, rfl⟩ := own_slice hown'; have HO9 := Lib.hid hown'; have HG9 := Lib.hid hgrow; clear hown' hgrow; have hB12 := hB11.grown HG9.out hB11.size (fun s e => (HLT.out s e).1); have c2' := (bB5.below hB12 bB5.lt).cell 2; simp only [List.getElem?_toArray, List.getElem?_cons_zero, List.getElem?_cons_succ] at c2'))
                go_roundw
                case rel => exact ⟨j + 1, _, by omega, rfl, HXN.out, by rw [HE9.out.1, HE9.out.2]; exact HO9.out, hB12⟩
                case measure => have := HDX.out; simp [intOf]; omega
          · obtain rfl : j = ac := by omega
            have dx : decide (x + d.w ≤ b.w) = false := by simp; omega
            have e9 : k * j + j = (k + 1) * j := by rw [Nat.add_mul]; omega
            rw [e9] at hO2
            obtain ⟨ln, hln⟩ : ∃ ln, (Ne.rwK b l q G j ((k + 1) * j)).length = ln := ⟨_, rfl⟩
            have hll := HLN.out ((k + 1) * j)
            rw [hln] at hO2 hll
            have HLN1 := Lib.hid hln
            have HO2 := Lib.hid hO2
            obtain ⟨A9, c9, hv9⟩ := own_slice hO2
            subst hv9
            have HEND : Hid (ln = 200 → Ne.rwK b l q G j ((k + 1) * j) = R) := Lib.hid (fun h => by
              have hle : (k + 1) * j ≤ T := by
                have := Nat.mul_le_mul_right j (show k + 1 ≤ up by omega)
                rw [Nat.mul_comm up j, HTT.out] at this
                exact this
              rw [← HST.out ((k + 1) * j) (by rw [hln]; exact h) T hle]
              exact HRR.out)
            clear hx1 hx e9 hln hO2
            by_cases h200 : ln = 200
            · have d9 : decide ((200 : Int) ≤ (ln : Int)) = true := by simp; omega
              go_wp2
              go_ret2
              have hB9 := hB5.trans (hB2.mono hB5.size)
              exact ⟨_, rfl, by rw [← HEND.out h200, HLN1.out]; exact HO2.out.mono hB5.size, hB9⟩
            · have d9 : decide ((200 : Int) ≤ (ln : Int)) = false := by simp; omega
              go_wp2
              go_roundw
              case rel => exact ⟨k + 1, _, by omega, rfl, HYN.out, by rw [HLN1.out]; omega, by rw [HLN1.out]; exact HO2.out, hB2⟩
              case measure => have := HDY.out; simp [intOf]; omega
      · obtain rfl : k = up := by omega
        have dy : decide (y + d.h ≤ b.h) = false := by simp; omega
        have c1 : wo.cell? ⟨w.heap.size, 1, none⟩ = some (.int .i64 b.h) := (bB5.below hB bB5.lt).cell 1
        have hB9 := hB5.trans (hB.mono hB5.size)
        have e9 : Ne.rwK b l q G ac (k * ac) = R := by rw [Nat.mul_comm, HTT.out]; exact HRR.out
        rw [e9] at hO
        have HO9 := Lib.hid (hO.mono hB5.size)
        clear hx2 hy hO e9
        go_wp2
        go_ret2
        exact ⟨_, rfl, HO9.out, hB9⟩
  · obtain ⟨r1, r2⟩ := Ne.roE_bad (b := b) (l := l) (i := i) (by rw [hE0]; exact h0)
    have HRR : Hid (R = []) := Lib.hid (by rw [← hR, r2])
    cases x with
    | false =>
      have HEE : Hid (E = 70) := Lib.hid (by rw [← hE, r1]; unfold Ne.cpE; rw [hx]; rfl)
      clear hE hR r1 r2 hE0 hx
      go_enter Try.func34, Try.ntmps34
      go_wp2_with (refine ldm_bo hrg (by rfl) _ rfl rfl (Hid.out ?_))
      refine Lib.hid ?_
      go_wp2_with fail
      refine (HC.out _ (HF.out.below hB0) (HP.out.below hB0)).mono ?_
      rintro e w1 ⟨rfl, hb1⟩
      have hB1 := hB0.trans (hb1.mono hB0.size)
      go_wp2
      go_ret2
      exact ⟨.slice none 0 0, by rw [HEE.out]; rfl, by rw [HRR.out]; exact World.ownsRow_nil _ _ _ _, hB1⟩
    | true =>
      have hix : Ne.ix l i = false := by
        cases e : Ne.ix l i with
        | false => rfl
        | true =>
          exfalso; apply h0
          rw [← hE0]; unfold Ne.cpE; rw [hx, e]; rfl
      have HEE : Hid (E = 2) := Lib.hid (by rw [← hE, r1]; unfold Ne.cpE; rw [hx, hix]; rfl)
      unfold Ne.ix at hix
      rw [hm] at hix
      have hix2 := of_decide_eq_false hix
      clear hE hR r1 r2 hE0 hx hix
      by_cases hi0 : i < 0
      · have e0 : decide (i < 0) = true := by simp; omega
        go_enter Try.func34, Try.ntmps34
        go_wp2_with (refine ldm_bo hrg (by rfl) _ rfl rfl (Hid.out ?_))
        refine Lib.hid ?_
        go_wp2_with fail
        refine (HC.out _ (HF.out.below hB0) (HP.out.below hB0)).mono ?_
        rintro e w1 ⟨rfl, hb1⟩
        have hB1 := hB0.trans (hb1.mono hB0.size)
        go_wp2
        go_ret2
        exact ⟨.slice none 0 0, by rw [HEE.out]; rfl, by rw [HRR.out]; exact World.ownsRow_nil _ _ _ _, hB1⟩
      · have e0 : decide (i < 0) = false := by simp; omega
        have e1 : decide ((m : Int) ≤ i) = true := by simp; omega
        go_enter Try.func34, Try.ntmps34
        go_wp2_with (refine ldm_bo hrg (by rfl) _ rfl rfl (Hid.out ?_))
        refine Lib.hid ?_
        go_wp2_with fail
        refine (HC.out _ (HF.out.below hB0) (HP.out.below hB0)).mono ?_
        rintro e w1 ⟨rfl, hb1⟩
        have hB1 := hB0.trans (hb1.mono hB0.size)
        go_wp2
        go_ret2
        exact ⟨.slice none 0 0, by rw [HEE.out]; rfl, by rw [HRR.out]; exact World.ownsRow_nil _ _ _ _, hB1⟩
end Go.Proofs.Ytlikmlhlfbdchaa
