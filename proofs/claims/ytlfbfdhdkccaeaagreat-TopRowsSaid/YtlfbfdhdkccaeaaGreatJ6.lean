/- judgeRun, of the program. -/
import Derived.Test.YtlfbfdhdkccaeaaGreatJ5
import Derived.Test.YtlfbfdhdkccaeaaGreatS2
namespace Go.Proofs.YtlfbfdhdkccaeaaGreat
open Go.RowKit Go.Shelf Go.Sort

set_option maxRecDepth 100000 in
set_option maxHeartbeats 8000000 in
/-- no index, no hour, or done -/
theorem jrun_no (A : Option Addr) (n c : Nat) (hn : n ≤ 40) (cl : Int) (g : Nat) (u : Nat → Bool) (D : List Int) (hu : ∀ q : Nat, q < n → u q = decide ((q : Int) ∈ D)) (AX : Option Addr) (xs : List Pl.Rn) (cx m : Nat) (hm : xs.length = m) (hm1 : m ≤ 1000) (j : Nat) (hj : j < m) (r : Pl.Rn) (hr : xs.getD j Pl.zr = r)
    (w0 w : World) (hX : Rows rnL 4 w0 AX xs) (hB : Below w0.heap.size w0 w) (hst : StB w g n u) (e : Int)
    (hc : (¬ ((0 ≤ r.b ∧ r.b < (n : Int)) ∧ 0 ≤ r.f) ∧ e = 2) ∨ (((0 ≤ r.b ∧ r.b < (n : Int)) ∧ 0 ≤ r.f) ∧ r.b ∈ D ∧ e = 43)) :
    Calls Tryz.prog 64 #[.slice A n c, .int .i64 cl, .slice (some ⟨g, 0, none⟩) n n, .slice AX m cx, .int .i64 j] w fun e' w' => e' = .returned (.int .i64 e) ∧ Below w0.heap.size w0 w' := by
  have hjx : j < xs.length := by omega
  obtain ⟨bx, ox, rfl, hbx, hcx⟩ := hX.open (by omega)
  have r1 := rangeAt_below (hcx j hjx) hbx hB
  have hr' : xs[j] = r := by rw [← hr, List.getD_eq_getElem?_getD, List.getElem?_eq_getElem hjx]; rfl
  rw [hr'] at r1
  obtain ⟨rb, rf, rt, rc⟩ := r
  have hjI : (j : Int) < (m : Int) := by omega
  have bR := Blk.new w 60 (rnA ⟨rb, rf, rt, rc⟩)
  have q0 := bR.cell 0
  have q1 := bR.cell 1
  have hB2 := hB.alloc hB.size (.cells (rnA ⟨rb, rf, rt, rc⟩) 60)
  have hst2 := hst.alloc (.cells (rnA ⟨rb, rf, rt, rc⟩) 60)
  have HIX := Lib.hid (fun v hv w => isindex_b rb A n c (by omega) v hv w)
  clear bR hX hcx hr hr' hB hst hm
  rcases hc with ⟨hc, rfl⟩ | ⟨⟨⟨h1, h2⟩, h3⟩, h4, rfl⟩
  · by_cases hi : 0 ≤ rb ∧ rb < (n : Int)
    · have h3 : rf < 0 := by
        rcases Int.lt_or_le rf 0 with h | h
        · exact h
        · exact absurd ⟨hi, h⟩ hc
      have HI := Lib.hid (fun w => HIX.out true (decide_eq_true hi) w)
      clear hc hi HIX hst2
      go_enter Tryz.func64, Tryz.ntmps64
      go_wp2_with (refine ldm_rn r1 rfl _ rfl rfl ?_)
      refine (HI.out _).mono ?_
      rintro e w2 ⟨rfl, hw2⟩
      subst hw2
      go_wp2
      go_ret
      exact ⟨rfl, hB2⟩
    · have HI := Lib.hid (fun w => HIX.out false (decide_eq_false hi) w)
      clear hc hi HIX hst2
      go_enter Tryz.func64, Tryz.ntmps64
      go_wp2_with (refine ldm_rn r1 rfl _ rfl rfl ?_)
      refine (HI.out _).mono ?_
      rintro e w2 ⟨rfl, hw2⟩
      subst hw2
      go_wp2
      go_ret
      exact ⟨rfl, hB2⟩
  · change 0 ≤ rb at h1
    change rb < (n : Int) at h2
    change 0 ≤ rf at h3
    change rb ∈ D at h4
    have HI := Lib.hid (fun w => HIX.out true (decide_eq_true ⟨h1, h2⟩) w)
    obtain ⟨q, rfl⟩ : ∃ q : Nat, rb = q := ⟨rb.toNat, by omega⟩
    have hqn : q < n := by omega
    have hcu := hst2.cell hqn
    rw [hu q hqn, decide_eq_true h4] at hcu
    have h3' : ¬ rf < 0 := by omega
    clear HIX hst2 h4 hu
    go_enter Tryz.func64, Tryz.ntmps64
    go_wp2_with (refine ldm_rn r1 rfl _ rfl rfl ?_)
    refine (HI.out _).mono ?_
    rintro e w2 ⟨rfl, hw2⟩
    subst hw2
    go_wp2
    go_ret
    exact ⟨rfl, hB2⟩

set_option maxRecDepth 100000 in
set_option maxHeartbeats 16000000 in
/-- the first run of a barrel -/
theorem jrun_first (A : Option Addr) (l : List Pl.Bt) (n c : Nat) (hn : l.length = n) (hok : Pl.Ok l) (cl : Int) (hc0 : 0 ≤ cl) (hc1 : cl ≤ 100) (g : Nat) (u : Nat → Bool) (AX : Option Addr) (xs : List Pl.Rn) (cx m : Nat) (hm : xs.length = m) (hm1 : m ≤ 1000) (hj : 0 < m) (r : Pl.Rn) (hr : xs.getD 0 Pl.zr = r) (hrw : Pl.Rw r) (q : Nat) (hq : r.b = q) (hqn : q < n) (hf : 0 ≤ r.f) (huq : u q = false)
    (w0 w : World) (hI : Bts w0 A l) (hX : Rows rnL 4 w0 AX xs) (hB : Below w0.heap.size w0 w) (hg : w0.heap.size ≤ g) (hst : StB w g n u) (v : Bool) (hv : Pl.er (Pl.at' l q) r cl = v) (e : Int)
    (he : e = if v = false then 73 else if r.c = false then 61 else 0) :
    Calls Tryz.prog 64 #[.slice A n c, .int .i64 cl, .slice (some ⟨g, 0, none⟩) n n, .slice AX m cx, .int .i64 0] w fun e' w' => e' = .returned (.int .i64 e) ∧ Below w0.heap.size w0 w' ∧ StB w' g n (fun t => if t = q then true else u t) := by
  have hn4 : n ≤ 40 := hn ▸ hok.len
  have hjx : 0 < xs.length := by omega
  obtain ⟨bx, ox, rfl, hbx, hcx⟩ := hX.open (by omega)
  have r1 := rangeAt_below (hcx 0 hjx) hbx hB
  have hr' : xs[0] = r := by rw [← hr, List.getD_eq_getElem?_getD, List.getElem?_eq_getElem hjx]; rfl
  rw [hr', Nat.zero_mul, Nat.add_zero] at r1
  have HER := Lib.hid (fun W hI => endsRight_b A l c n q hn hqn _ rfl (hok.vb q (by omega)) r hq hrw cl hc0 hc1 v hv W hI)
  obtain ⟨rb, rf, rt, rc⟩ := r
  obtain rfl : rb = (q : Int) := hq
  change 0 ≤ rf at hf
  have hjI : (0 : Int) < (m : Int) := by omega
  have bR := Blk.new w 60 (rnA ⟨q, rf, rt, rc⟩)
  have q0 := bR.cell 0
  have q1 := bR.cell 1
  have hst2 := hst.alloc (.cells (rnA ⟨q, rf, rt, rc⟩) 60)
  have hcu := hst2.cell hqn
  rw [huq] at hcu
  have hfr := hst2.frozen q
  have hgw : g < w.heap.size := hst.lt
  have HI := Lib.hid (fun w => isindex_b (q : Int) A n c (by omega) true (decide_eq_true ⟨by omega, by omega⟩) w)
  obtain ⟨w2, hw2⟩ : ∃ w2, w2 = (w.setCell ⟨g, q, none⟩ (.bool true)).alloc (.cells (rnA ⟨q, rf, rt, rc⟩) 60) := ⟨_, rfl⟩
  have hB2 : Below w0.heap.size w0 w2 := by rw [hw2]; exact (hB.setCell (p := ⟨g, q, none⟩) hg _).alloc (by simpa using hB.size) _
  have hst3 : StB w2 g n (fun t => if t = q then true else u t) := by rw [hw2]; exact (hst.set (f' := fun t => if t = q then true else u t) q true (fun t _ => rfl)).alloc _
  have bR2 : Blk w2 w.heap.size 60 (rnA ⟨q, rf, rt, rc⟩) := by
    rw [hw2]
    have := Blk.new (w.setCell ⟨g, q, none⟩ (.bool true)) 60 (rnA ⟨q, rf, rt, rc⟩)
    simpa using this
  have hsz : w.heap.size < w2.heap.size := bR2.lt
  have hgw2 : g < w2.heap.size := by omega
  have HIW := Lib.hid (fun s : Ext w2 => hI.below (hB2.trans (s.h.mono hB2.size)))
  have y0 := fun s : Ext w2 => s.cell (p := ⟨w.heap.size, 0, none⟩) ((bR2.cell 0).trans rfl)
  have y1 := fun s : Ext w2 => s.cell (p := ⟨w.heap.size, 1, none⟩) ((bR2.cell 1).trans rfl)
  have y2 := fun s : Ext w2 => s.cell (p := ⟨w.heap.size, 2, none⟩) ((bR2.cell 2).trans rfl)
  have y3 := fun s : Ext w2 => s.cell (p := ⟨w.heap.size, 3, none⟩) ((bR2.cell 3).trans rfl)
  have HS3 := Lib.hid hst3
  have HB2 := Lib.hid hB2
  have HBR := Lib.hid bR2
  have h3' : ¬ rf < 0 := by omega
  have HE := Lib.hid he
  have HW2 := Lib.hid hw2
  clear hX hcx hr hr' hB hst hm hrw hst3 hB2 bR2 hv he hI hst2 bR hw2 huq
  cases v
  · have HE2 : Hid (e = 73) := Lib.hid HE.out
    go_enter Tryz.func64, Tryz.ntmps64
    go_wp2_with (refine ldm_rn r1 rfl _ rfl rfl ?_)
    refine (HI.out _).mono ?_
    rintro e w3 ⟨rfl, hw3⟩
    subst hw3
    go_wp2
    rw [← HW2.out]
    clear r1 q0 q1 hcu hfr
    refine wp_region_ext (by kernel_rfl) (by kernel_rfl) ?_
    repeat (go_big_quiet_step ((go_at_call 85; refine calls_ext (HER.out _ (HIW.out _)))))
    refine wpQuiet_nil ?_
    rintro _ ⟨s, rfl⟩
    go_wp2
    go_ret
    exact ⟨by rw [HE2.out]; rfl, HB2.out.trans (s.h.mono HB2.out.size), HS3.out.below s.h hgw2⟩
  · cases rc
    · have HE2 : Hid (e = 61) := Lib.hid HE.out
      go_enter Tryz.func64, Tryz.ntmps64
      go_wp2_with (refine ldm_rn r1 rfl _ rfl rfl ?_)
      refine (HI.out _).mono ?_
      rintro e w3 ⟨rfl, hw3⟩
      subst hw3
      go_wp2
      rw [← HW2.out]
      clear r1 q0 q1 hcu hfr
      refine wp_region_ext (by kernel_rfl) (by kernel_rfl) ?_
      repeat (go_big_quiet_step ((go_at_call 85; refine calls_ext (HER.out _ (HIW.out _)))))
      refine wpQuiet_nil ?_
      rintro _ ⟨s, rfl⟩
      have hs := s.h
      generalize s.w = W at hs ⊢
      have z3 := fun s : Ext W => s.cell (p := ⟨w.heap.size, 3, none⟩) (((HBR.out.below hs hsz).cell 3).trans rfl)
      have HB3 := Lib.hid (HB2.out.trans (hs.mono HB2.out.size))
      have HS4 := Lib.hid (HS3.out.below hs hgw2)
      clear y0 y1 y2 y3 hs
      go_wp2
      refine wp_region_ext (by kernel_rfl) (by kernel_rfl) ?_
      repeat (go_big_quiet_step (fail))
      refine wpQuiet_nil ?_
      rintro _ ⟨s, rfl⟩
      go_wp2
      go_ret
      exact ⟨by rw [HE2.out]; rfl, HB3.out.trans (s.h.mono HB3.out.size), HS4.out.below s.h HS4.out.lt⟩
    · have HE2 : Hid (e = 0) := Lib.hid HE.out
      go_enter Tryz.func64, Tryz.ntmps64
      go_wp2_with (refine ldm_rn r1 rfl _ rfl rfl ?_)
      refine (HI.out _).mono ?_
      rintro e w3 ⟨rfl, hw3⟩
      subst hw3
      go_wp2
      rw [← HW2.out]
      clear r1 q0 q1 hcu hfr
      refine wp_region_ext (by kernel_rfl) (by kernel_rfl) ?_
      repeat (go_big_quiet_step ((go_at_call 85; refine calls_ext (HER.out _ (HIW.out _)))))
      refine wpQuiet_nil ?_
      rintro _ ⟨s, rfl⟩
      have hs := s.h
      generalize s.w = W at hs ⊢
      have z3 := fun s : Ext W => s.cell (p := ⟨w.heap.size, 3, none⟩) (((HBR.out.below hs hsz).cell 3).trans rfl)
      have HB3 := Lib.hid (HB2.out.trans (hs.mono HB2.out.size))
      have HS4 := Lib.hid (HS3.out.below hs hgw2)
      clear y0 y1 y2 y3 hs
      go_wp2
      refine wp_region_ext (by kernel_rfl) (by kernel_rfl) ?_
      repeat (go_big_quiet_step (fail))
      refine wpQuiet_nil ?_
      rintro _ ⟨s, rfl⟩
      go_wp2
      go_ret
      exact ⟨by rw [HE2.out]; rfl, HB3.out.trans (s.h.mono HB3.out.size), HS4.out.below s.h HS4.out.lt⟩
end Go.Proofs.YtlfbfdhdkccaeaaGreat

