/- Ovens: Allowance, of the program and the document. -/
import Derived.Test.YticjhkfidgkecaaGreatDoorO4
namespace Go.Proofs.YticjhkfidgkecaaGreatDoor
open Go.RowKit Go.Shelf Pl

theorem below_trans0 {w0 w w' : World} (h : Below w0.heap.size w0 w) (hb : Below w.heap.size w w') : Below w0.heap.size w0 w' := h.trans (hb.mono h.size)
theorem al_some {w : Int} {t : List Int} {d : Int} {r : Nat} (hE : seE w t d = 0) (h : alw w t d.toNat = some r) : alE w t d = 0 ∧ alV w t d = r := by simp [alE, alV, hE, h]
theorem al_none {w : Int} {t : List Int} {d : Int} (hE : seE w t d = 0) (h : alw w t d.toNat = none) : alE w t d = 5 ∧ alV w t d = 0 := by simp [alE, alV, hE, h]
theorem al_err {w : Int} {t : List Int} {d : Int} (hE : seE w t d ≠ 0) : alE w t d = seE w t d ∧ alV w t d = 0 := by simp [alE, alV, hE]
set_option maxRecDepth 100000 in
set_option maxHeartbeats 4000000 in
theorem allow_err (n : Int) (A : Option Addr) (t : List Int) (len c : Nat) (hlen : t.length = len) (hm : len ≤ maxLen) (d : Int) (h0 : seE n t d ≠ 0) (w : World) (hI : Tb w A t) :
    Calls Tryz.prog 56 #[.int .i64 n, .slice A len c, .int .i64 d] w fun e w' => e = .returned (.tuple #[.int .i64 (alV n t d), .int .i64 (alE n t d)]) ∧ Below w.heap.size w w' := by
  rw [(al_err h0).1, (al_err h0).2]
  obtain ⟨E, hE⟩ : ∃ E, seE n t d = E := ⟨_, rfl⟩
  rw [hE] at h0 ⊢
  obtain ⟨a, ha⟩ : ∃ a, siz n = a := ⟨_, rfl⟩
  obtain ⟨b, hb⟩ : ∃ b, wai d = b := ⟨_, rfl⟩
  have g0 : (E == 0) = false := by simpa using h0
  unfold seE at hE
  rw [ha, hb] at hE
  have H3 := Lib.hid (fun w hI => calls_same (ovenError_any A t len c hlen hm (a && b) E hE w hI))
  have H1 := Lib.hid (fun w => calls_same (isSize_any n w))
  have H2 := Lib.hid (fun w => calls_same (isWait_any d w))
  rw [ha] at H1
  rw [hb] at H2
  have hb1 := (Below.refl w.heap.size w).alloc (Nat.le_refl _) (.cells #[.int .i64 n] 3)
  have hb2 := hb1.alloc hb1.size (.cells #[.slice A len c] 64)
  have HB := Lib.hid (hb2.alloc hb2.size (.cells #[.int .i64 d] 3))
  have B0 := ((Blk.new w 3 #[.int .i64 n]).alloc (.cells #[.slice A len c] 64)).alloc (.cells #[.int .i64 d] 3)
  have B1 := (Blk.new (w.alloc (.cells #[.int .i64 n] 3)) 64 #[.slice A len c]).alloc (.cells #[.int .i64 d] 3)
  have B2 := Blk.new ((w.alloc (.cells #[.int .i64 n] 3)).alloc (.cells #[.slice A len c] 64)) 3 #[.int .i64 d]
  simp only [World.size_alloc] at B1 B2
  have HI := Lib.hid (hI.below HB.out)
  clear hb1 hb2 hlen hm ha hb hE hI
  go_enter Tryz.func56, Tryz.ntmps56
  go_wp2_with fail
  generalize ((w.alloc (.cells #[.int .i64 n] 3)).alloc (.cells #[.slice A len c] 64)).alloc (.cells #[.int .i64 d] 3) = W at *
  have HIs := Lib.hid (fun s : Ext W => HI.out.below s.h)
  have f0 := fun s : Ext W => s.cell (show W.cell? ⟨w.heap.size, 0, none⟩ = some (.int .i64 n) from (B0.cell 0).trans rfl)
  have f1 := fun s : Ext W => s.cell (show W.cell? ⟨w.heap.size + 1, 0, none⟩ = some (.slice A len c) from (B1.cell 0).trans rfl)
  have f2 := fun s : Ext W => s.cell (show W.cell? ⟨w.heap.size + 1 + 1, 0, none⟩ = some (.int .i64 d) from (B2.cell 0).trans rfl)
  clear B0 B1 B2
  cases a with
  | false =>
    rw [Bool.false_and] at H3
    refine wp_region_ext (by kernel_rfl) (by kernel_rfl) ?_
    repeat (go_big_quiet_step ((first | (go_at_call 92; refine calls_ext (H1.out _)) | (go_at_call 93; refine calls_ext (H2.out _)) | (go_at_call 91; refine calls_ext (H3.out _ (HIs.out _))))))
    refine wpQuiet_nil ?_
    rintro _ ⟨s, rfl⟩
    go_wp2_with fail
    go_ret2
    exact ⟨ret2 rfl rfl, HB.out.trans (s.h.mono HB.out.size)⟩
  | true =>
    rw [Bool.true_and] at H3
    refine wp_region_ext (by kernel_rfl) (by kernel_rfl) ?_
    repeat (go_big_quiet_step ((first | (go_at_call 92; refine calls_ext (H1.out _)) | (go_at_call 93; refine calls_ext (H2.out _)) | (go_at_call 91; refine calls_ext (H3.out _ (HIs.out _))))))
    refine wpQuiet_nil ?_
    rintro _ ⟨s, rfl⟩
    go_wp2_with fail
    go_ret2
    exact ⟨ret2 rfl rfl, HB.out.trans (s.h.mono HB.out.size)⟩
set_option maxRecDepth 100000 in
set_option maxHeartbeats 4000000 in
theorem allow_ok (n : Int) (A : Option Addr) (t : List Int) (len c : Nat) (hlen : t.length = len) (hc : len ≤ c) (hm : len ≤ maxLen) (d : Int) (h0 : seE n t d = 0) (w : World) (hI : Tb w A t) :
    Calls Tryz.prog 56 #[.int .i64 n, .slice A len c, .int .i64 d] w fun e w' => e = .returned (.tuple #[.int .i64 (alV n t d), .int .i64 (alE n t d)]) ∧ Below w.heap.size w w' := by
  obtain ⟨hok, hn, hd, h60⟩ := seE_zero h0
  obtain ⟨k, rfl⟩ : ∃ k : Nat, d = k := ⟨d.toNat, by omega⟩
  have hk : k ≤ 1000 := by omega
  have HNO := Lib.hid (fun (h : alw n t k = none) => al_none h0 (by simpa using h))
  have HYES := Lib.hid (fun (r : Nat) (h : alw n t k = some r) => al_some h0 (by simpa using h))
  have ha : siz n = true := by simp [siz, hn]
  have hb : wai k = true := by simp [wai]; omega
  have hE : ovE t (true && true) = 0 := by rw [← h0]; unfold seE; rw [ha, hb]
  have H3 := Lib.hid (fun w hI => calls_same (ovenError_any A t len c hlen hm true 0 hE w hI))
  have H1 := Lib.hid (fun w => calls_same (isSize_any n w))
  have H2 := Lib.hid (fun w => calls_same (isWait_any k w))
  rw [ha] at H1
  rw [hb] at H2
  have hb1 := (Below.refl w.heap.size w).alloc (Nat.le_refl _) (.cells #[.int .i64 n] 3)
  have hb2 := hb1.alloc hb1.size (.cells #[.slice A len c] 64)
  have HB := Lib.hid (hb2.alloc hb2.size (.cells #[.int .i64 k] 3))
  have B0 := ((Blk.new w 3 #[.int .i64 n]).alloc (.cells #[.slice A len c] 64)).alloc (.cells #[.int .i64 k] 3)
  have B1 := (Blk.new (w.alloc (.cells #[.int .i64 n] 3)) 64 #[.slice A len c]).alloc (.cells #[.int .i64 k] 3)
  have B2 := Blk.new ((w.alloc (.cells #[.int .i64 n] 3)).alloc (.cells #[.slice A len c] 64)) 3 #[.int .i64 k]
  simp only [World.size_alloc] at B1 B2
  have HI := Lib.hid (hI.below HB.out)
  have HOK := Lib.hid hok
  have HLEN := Lib.hid hlen
  clear hb1 hb2 hlen hm ha hb hE hI hok hd h60 h0
  go_enter Tryz.func56, Tryz.ntmps56
  go_wp2_with fail
  generalize ((w.alloc (.cells #[.int .i64 n] 3)).alloc (.cells #[.slice A len c] 64)).alloc (.cells #[.int .i64 k] 3) = W at *
  have HIs := Lib.hid (fun s : Ext W => HI.out.below s.h)
  have f0 := fun s : Ext W => s.cell (show W.cell? ⟨w.heap.size, 0, none⟩ = some (.int .i64 n) from (B0.cell 0).trans rfl)
  have f1 := fun s : Ext W => s.cell (show W.cell? ⟨w.heap.size + 1, 0, none⟩ = some (.slice A len c) from (B1.cell 0).trans rfl)
  have f2 := fun s : Ext W => s.cell (show W.cell? ⟨w.heap.size + 1 + 1, 0, none⟩ = some (.int .i64 k) from (B2.cell 0).trans rfl)
  have HB0 := Lib.hid B0
  have HB1 := Lib.hid B1
  have HB2 := Lib.hid B2
  clear B0 B1 B2
  refine wp_region_ext (by kernel_rfl) (by kernel_rfl) ?_
  repeat (go_big_quiet_step ((first | (go_at_call 92; refine calls_ext (H1.out _)) | (go_at_call 93; refine calls_ext (H2.out _)) | (go_at_call 91; refine calls_ext (H3.out _ (HIs.out _))))))
  refine wpQuiet_nil ?_
  rintro _ ⟨s, rfl⟩
  have HBs := Lib.hid (HB.out.trans (s.h.mono HB.out.size))
  have b0 := HB0.out.below s.h HB0.out.lt
  have b1 := HB1.out.below s.h HB1.out.lt
  have b2 := HB2.out.below s.h HB2.out.lt
  have hIs := HIs.out s
  generalize s.w = w2 at *
  clear s f0 f1 f2 HIs HB0 HB1 HB2 H1 H2 H3 HB HI
  have hS := search_any 100000 (by decide) #[.pointer (some ⟨w.heap.size + 1, 0, none⟩), .pointer (some ⟨w.heap.size + 1 + 1, 0, none⟩), .pointer (some ⟨w.heap.size, 0, none⟩)] (fun i => decide (n ≤ sea ((1 + i : Nat) : Int) t k)) w2
    (fun w' i hb hi => alw1_any A t len c HLEN.out hc HOK.out n k hk (w.heap.size + 1) (w.heap.size + 1 + 1) w.heap.size i hi w' (hIs.below hb) ((b1.below hb b1.lt).cell 0) ((b2.below hb b2.lt).cell 0) ((b0.below hb b0.lt).cell 0))
    (fun a b hab _ h => by
      have h1 := of_decide_eq_true h
      have h2 := sea_mono (s := ((1 + a : Nat) : Int)) (s' := ((1 + b : Nat) : Int)) k HOK.out (by omega)
      exact decide_eq_true (by omega))
  rw [show ((100000 : Nat) : Int) = 100000 by omega] at hS
  have HSS := Lib.hid hS
  clear hS hIs b0 b1 b2 HOK HLEN
  go_wp2_with fail
  refine HSS.out.mono ?_
  rintro e w3 ⟨r, rfl, hr, hs1, hs2, hb3⟩
  have HB3 := Lib.hid (below_trans0 HBs.out hb3)
  have K1 := Lib.hid hs1
  have K2 := Lib.hid hs2
  clear hb3 HSS hs1 hs2
  by_cases hbig : r = 100000
  · obtain ⟨e1, e2⟩ := HNO.out (alw_no (fun j h1 h2 => by
      have := of_decide_eq_false (K1.out (j - 1) (by omega))
      rw [show 1 + (j - 1) = j by omega] at this; omega))
    have HE1 := Lib.hid e1
    have HE2 := Lib.hid e2
    have hri : (r : Int) = 100000 := by omega
    clear e1 e2 hbig K1 K2 HNO HYES
    rw [hri]
    go_wp2_with fail
    go_ret2
    exact ⟨ret2 (congrArg (Value.int .i64) HE2.out.symm) (congrArg (Value.int .i64) HE1.out.symm), HB3.out⟩
  · obtain ⟨e1, e2⟩ := HYES.out (1 + r) (alw_eq (by omega) (by omega) (of_decide_eq_true (K2.out r (Nat.le_refl _) (by omega))) (fun j h1 h2 => by
      have := of_decide_eq_false (K1.out (j - 1) (by omega))
      rw [show 1 + (j - 1) = j by omega] at this; omega))
    have HE1 := Lib.hid e1
    have HE2 := Lib.hid e2
    have hri : decide ((100000 : Int) < 1 + (r : Int)) = false := by simp; omega
    have kw : IntKind.i64.wrap (1 + (r : Int)) = 1 + (r : Int) := IntWalk.i64_in _ (by omega)
    clear e1 e2 K1 K2 HNO HYES
    go_wp2_with fail
    go_ret2
    exact ⟨ret2 (congrArg (Value.int .i64) (by rw [HE2.out]; omega)) (congrArg (Value.int .i64) HE1.out.symm), HB3.out⟩
end Go.Proofs.YticjhkfidgkecaaGreatDoor
