/- within, validHead, validSize, and the document's own. -/
import Derived.Test.YtghbipipehglfaaDoorA0
namespace Go.Proofs.YtghbipipehglfaaDoor
open Go.RowKit Go.Shelf

set_option maxHeartbeats 400000 in
theorem within_any (n a b : Int) (w : World) :
    Calls Tryd.prog 72 #[.int .i64 n, .int .i64 a, .int .i64 b] w fun e w' => e = .returned (.bool (Pl.inB n a b)) ∧ w' = w := by
  have H : Hid (Pl.inB n a b = (decide (a ≤ n) && decide (n ≤ b))) := Lib.hid rfl
  go_enter Tryd.func72, Tryd.ntmps72
  go_wp2
  all_goals (go_ret; exact ⟨by rw [H.out]; simp [*]; try omega, rfl⟩)
theorem within_b (n a b : Int) (v : Bool) (hv : Pl.inB n a b = v) (w : World) :
    Calls Tryd.prog 72 #[.int .i64 n, .int .i64 a, .int .i64 b] w fun e w' => e = .returned (.bool v) ∧ w' = w := by
  subst hv; exact within_any n a b w
theorem within_x (n a b : Int) (v : Bool) (hv : Pl.inB n a b = v) (w : World) :
    Calls Tryd.prog 72 #[.int .i64 n, .int .i64 a, .int .i64 b] w fun e w' => e = .returned (.bool v) ∧ Below w.heap.size w w' :=
  (within_b n a b v hv w).mono fun _ _ ⟨h1, h2⟩ => ⟨h1, h2 ▸ Below.refl _ _⟩
theorem within_y (n a b : Int) (w : World) :
    Calls Tryd.prog 72 #[.int .i64 n, .int .i64 a, .int .i64 b] w fun e w' => e = .returned (.bool (Pl.inB n a b)) ∧ Below w.heap.size w w' :=
  (within_any n a b w).mono fun _ _ ⟨h1, h2⟩ => ⟨h1, h2 ▸ Below.refl _ _⟩

set_option maxRecDepth 100000 in
set_option maxHeartbeats 1000000 in
theorem vhead_b (h : Pl.Hd) (v : Bool) (hv : Pl.vh h = v) (w : World) :
    Calls Tryd.prog 36 #[.agg #[.int .i64 h.num, .int .i64 (h.m 0), .int .i64 (h.m 1), .int .i64 (h.m 2), .int .i64 (h.m 3), .int .i64 (h.m 4)]] w fun e w' => e = .returned (.bool v) ∧ Below w.heap.size w w' := by
  have HV := Lib.hid hv
  clear hv
  have hB0 := (Below.refl w.heap.size w).alloc (Nat.le_refl _) (.cells (hdA h) 34)
  have hld := (Blk.new w 34 (hdA h)).ldm
  go_enter Tryd.func36, Tryd.ntmps36
  go_wp2
  go_loop [4, 7] (fun _ i => ∃ k : Nat, k ≤ 5 ∧ i = .int .i64 k ∧ Hid (Pl.allK (Pl.vhI h) k = true)) (fun _ i => 5 - (intOf i).toNat)
  case atStart => exact ⟨0, by omega, rfl, Lib.hid rfl⟩
  case round =>
    obtain ⟨k, hk, rfl, hall⟩ := hrel
    by_cases hlt : k < 5
    · have hix := idx5 h.m hlt
      cases hin : Pl.vhI h k with
      | true =>
        have H := Lib.hid hin
        clear hin
        go_wp2_with (go_at_call 72; refine (within_b _ _ _ true H.out _).mono ?_; rintro e w' ⟨rfl, rfl⟩)
        go_round
        case rel => exact ⟨k + 1, by omega, by go_num, Lib.hid (Pl.allK_succ hall.out H.out)⟩
        case measure => simp [intOf]; omega
      | false =>
        have H := Lib.hid hin
        clear hin
        go_wp2_with (go_at_call 72; refine (within_b _ _ _ false H.out _).mono ?_; rintro e w' ⟨rfl, rfl⟩)
        go_ret
        have : v = false := by
          rw [← HV.out]; unfold Pl.vh; rw [Pl.allK_false hlt H.out]; rfl
        exact ⟨by rw [this]; rfl, hB0⟩
    · obtain rfl : k = 5 := by omega
      obtain ⟨b, hb⟩ : ∃ b, Pl.inB h.num 1 1000000000 = b := ⟨_, rfl⟩
      have H := Lib.hid hb
      clear hb
      go_wp2_with (go_at_call 72; refine (within_b _ _ _ b H.out _).mono ?_; rintro e w' ⟨rfl, rfl⟩)
      go_ret
      have : v = b := by
        rw [← HV.out]; unfold Pl.vh; rw [hall.out, H.out]; rfl
      exact ⟨by rw [this]; rfl, hB0⟩

set_option maxRecDepth 100000 in
set_option maxHeartbeats 1000000 in
theorem rvhead_b (h : Pl.Hd) (v : Bool) (hv : Pl.vh h = v) (w : World) :
    Calls Tryd.prog 38 #[.agg #[.int .i64 h.num, .int .i64 (h.m 0), .int .i64 (h.m 1), .int .i64 (h.m 2), .int .i64 (h.m 3), .int .i64 (h.m 4)]] w fun e w' => e = .returned (.bool v) ∧ Below w.heap.size w w' := by
  have HV := Lib.hid hv
  clear hv
  have hB0 := (Below.refl w.heap.size w).alloc (Nat.le_refl _) (.cells (hdA h) 34)
  have hld := (Blk.new w 34 (hdA h)).ldm
  go_enter Tryd.func38, Tryd.ntmps38
  go_wp2
  go_loop [4, 7] (fun _ i => ∃ k : Nat, k ≤ 5 ∧ i = .int .i64 k ∧ Hid (Pl.allK (Pl.vhI h) k = true)) (fun _ i => 5 - (intOf i).toNat)
  case atStart => exact ⟨0, by omega, rfl, Lib.hid rfl⟩
  case round =>
    obtain ⟨k, hk, rfl, hall⟩ := hrel
    by_cases hlt : k < 5
    · have hix := idx5 h.m hlt
      cases hin : Pl.vhI h k with
      | true =>
        obtain ⟨a1, a2⟩ := Pl.inB_true.1 hin
        have H := Lib.hid hin
        clear hin
        go_wp2
        go_round
        case rel => exact ⟨k + 1, by omega, by go_num, Lib.hid (Pl.allK_succ hall.out H.out)⟩
        case measure => simp [intOf]; omega
      | false =>
        have hno := Pl.inB_false.1 hin
        have : v = false := by
          rw [← HV.out]; unfold Pl.vh; rw [Pl.allK_false hlt hin]; rfl
        subst this
        clear hin
        by_cases h0 : h.m k < 0
        · clear hno
          go_wp2
          go_ret
          exact ⟨rfl, hB0⟩
        · have h3 : 3000 < h.m k := by omega
          clear hno
          go_wp2
          go_ret
          exact ⟨rfl, hB0⟩
    · obtain rfl : k = 5 := by omega
      have HX : Hid (v = (decide (1 ≤ h.num) && decide (h.num ≤ 1000000000))) := Lib.hid (by rw [← HV.out]; unfold Pl.vh; rw [hall.out]; rfl)
      go_wp2
      all_goals (go_ret; exact ⟨by rw [HX.out]; simp [*]; try omega, hB0⟩)

theorem vsI_parts (s : Pl.Sz) (k : Nat) (b1 b2 b3 : Bool) (h1 : Pl.inB (s.fr k) 0 (s.up k) = b1) (h2 : decide (s.up k ≤ 3000) = b2) (h3 : Pl.inB (s.bd k) 0 100 = b3) : Pl.vsI s k = (b1 && (b2 && b3)) := by
  unfold Pl.vsI; rw [h1, h2, h3]

set_option maxRecDepth 100000 in
set_option maxHeartbeats 2000000 in
theorem vsize_b (s : Pl.Sz) (v : Bool) (hv : Pl.vsz s = v) (w : World) :
    Calls Tryd.prog 32 #[.agg (szA s)] w fun e w' => e = .returned (.bool v) ∧ Below w.heap.size w w' := by
  have HV := Lib.hid hv
  clear hv
  have hB0 := (Below.refl w.heap.size w).alloc (Nat.le_refl _) (.cells (szA s) 46)
  have bS := Blk.new w 46 (szA s)
  go_enter Tryd.func32, Tryd.ntmps32
  go_wp2
  go_loopw [3, 4] (fun _ i wr => ∃ k : Nat, k ≤ 5 ∧ i = .int .i64 k ∧ Hid (Pl.allK (Pl.vsI s) k = true) ∧ Blk wr w.heap.size 46 (szA s) ∧ Below w.heap.size w wr) (fun _ i _ => 5 - (intOf i).toNat)
  case atStart => exact ⟨0, by omega, rfl, Lib.hid rfl, bS, hB0⟩
  case round =>
    clear bS hB0
    obtain ⟨k, hk, rfl, hall, bS, hB⟩ := hrel
    by_cases hlt : k < 5
    · have q1 := bS.fr hlt
      have q2 := bS.up hlt
      have q3 := bS.bd hlt
      have z1 := fun e : Ext wr => e.cell q1
      have z2 := fun e : Ext wr => e.cell q2
      have z3 := fun e : Ext wr => e.cell q3
      have hl := bS.lt
      obtain ⟨b1, h1⟩ : ∃ b, Pl.inB (s.fr k) 0 (s.up k) = b := ⟨_, rfl⟩
      obtain ⟨b2, h2⟩ : ∃ b, decide (s.up k ≤ 3000) = b := ⟨_, rfl⟩
      obtain ⟨b3, h3⟩ : ∃ b, Pl.inB (s.bd k) 0 100 = b := ⟨_, rfl⟩
      have HP := Lib.hid (vsI_parts s k b1 b2 b3 h1 h2 h3)
      have h2' : decide (3000 < s.up k) = !b2 := by rw [← h2]; by_cases e : s.up k ≤ 3000 <;> simp [e] <;> omega
      clear h2 q1 q2 q3
      go_wp2
      refine wp_region_ext (by kernel_rfl) (by kernel_rfl) ?_
      cases b1 <;> cases b2 <;> cases b3 <;>
      (first | rw [Bool.not_true] at h2' | rw [Bool.not_false] at h2'
       repeat (go_big_quiet_step ((go_at_call 72; refine calls_ext (within_y _ _ _ _))))
       refine wpQuiet_nil ?_
       rintro _ ⟨e, rfl⟩
       have hB2 := hB.trans (e.h.mono hB.size)
       have bS2 := bS.below e.h hl
       generalize e.w = W2 at *
       clear z1 z2 z3 e
       have H1 := Lib.hid h1
       have H3 := Lib.hid h3
       clear h1 h3 h2'
       go_wp2)
      case roundEnd =>
        go_roundw
        case rel => exact ⟨k + 1, by omega, by go_num, Lib.hid (Pl.allK_succ hall.out HP.out), bS2, hB2⟩
        case measure => simp [intOf]; omega
      all_goals
        go_ret
        have : v = false := by
          rw [← HV.out]; unfold Pl.vsz; rw [Pl.allK_false hlt HP.out]; rfl
        exact ⟨by rw [this]; rfl, hB2⟩
    · obtain rfl : k = 5 := by omega
      have q1 := bS.code
      have q2 := bS.tot
      obtain ⟨b1, hb1⟩ : ∃ b, Pl.inB s.code 1 1000000000 = b := ⟨_, rfl⟩
      obtain ⟨b2, hb2⟩ : ∃ b, Pl.inB s.tot 0 500 = b := ⟨_, rfl⟩
      have HX : Hid (v = (b1 && b2)) := Lib.hid (by rw [← HV.out]; unfold Pl.vsz; rw [hall.out, hb1, hb2]; rfl)
      cases b1 <;>
      (go_wp2_with (go_at_call 72; refine (within_any _ _ _ _).mono ?_; rintro e w' ⟨rfl, rfl⟩)
       go_ret
       exact ⟨by rw [HX.out]; rfl, hB⟩)
end Go.Proofs.YtghbipipehglfaaDoor
