/- judgeRun, of the program: a run behind another one. -/
import Derived.Test.YtlfbfdhdkccaeaaGreatJ6
namespace Go.Proofs.YtlfbfdhdkccaeaaGreat
open Go.RowKit Go.Shelf Go.Sort

set_option maxRecDepth 100000 in
set_option maxHeartbeats 16000000 in
/-- a run behind another one -/
theorem jrun_next (A : Option Addr) (l : List Pl.Bt) (n c : Nat) (hn : l.length = n) (hok : Pl.Ok l) (cl : Int) (hc0 : 0 ≤ cl) (hc1 : cl ≤ 100) (g : Nat) (u : Nat → Bool) (AX : Option Addr) (xs : List Pl.Rn) (cx m : Nat) (hm : xs.length = m) (hm1 : m ≤ 1000) (j : Nat) (hj : j + 1 < m) (p r : Pl.Rn) (hp : xs.getD j Pl.zr = p) (hr : xs.getD (j + 1) Pl.zr = r) (hrw : Pl.Rw r) (q qp : Nat) (hq : r.b = q) (hqn : q < n) (hqp : p.b = qp) (hqpn : qp < n) (hf : 0 ≤ r.f) (huq : u q = false)
    (w0 w : World) (hI : Bts w0 A l) (hX : Rows rnL 4 w0 AX xs) (hB : Below w0.heap.size w0 w) (hg : w0.heap.size ≤ g) (hst : StB w g n u) (v : Bool) (hv : Pl.er (Pl.at' l q) r cl = v) (mv : Bool) (hmv : Pl.may (Pl.at' l qp) (Pl.at' l q) = mv) (e : Int)
    (he : e = if r.f < p.t ∨ v = false then 73 else if r.c = false ∧ mv = false then 61 else 0) :
    Calls Tryz.prog 64 #[.slice A n c, .int .i64 cl, .slice (some ⟨g, 0, none⟩) n n, .slice AX m cx, .int .i64 ((j + 1 : Nat) : Int)] w fun e' w' => e' = .returned (.int .i64 e) ∧ Below w0.heap.size w0 w' ∧ StB w' g n (fun t => if t = q then true else u t) := by
  have hn4 : n ≤ 40 := hn ▸ hok.len
  have hjx : j + 1 < xs.length := by omega
  obtain ⟨bx, ox, rfl, hbx, hcx⟩ := hX.open (by omega)
  have r1 := rangeAt_below (hcx (j + 1) hjx) hbx hB
  have hr' : xs[j + 1] = r := by rw [← hr, List.getD_eq_getElem?_getD, List.getElem?_eq_getElem hjx]; rfl
  have hp' : xs[j] = p := by rw [← hp, List.getD_eq_getElem?_getD, List.getElem?_eq_getElem (by omega)]; rfl
  rw [hr'] at r1
  have rp := hcx j (by omega)
  rw [hp'] at rp
  obtain ⟨bz, oz, rfl, hbz, hcz⟩ := bts_open hI (by omega)
  have HER := Lib.hid (fun W hI => endsRight_b (some ⟨bz, oz, none⟩) l c n q hn hqn _ rfl (hok.vb q (by omega)) r hq hrw cl hc0 hc1 v hv W hI)
  have HMAY := Lib.hid (fun W => may_b (Pl.at' l qp) (Pl.at' l q) mv hmv W)
  obtain ⟨rb, rf, rt, rc⟩ := r
  obtain ⟨pb, pf, pt, pc⟩ := p
  obtain rfl : rb = (q : Int) := hq
  obtain rfl : pb = (qp : Int) := hqp
  change 0 ≤ rf at hf
  change e = if rf < pt ∨ v = false then 73 else if rc = false ∧ mv = false then 61 else 0 at he
  have hjI : ((j + 1 : Nat) : Int) < (m : Int) := by omega
  have hj0I : (j : Int) < (m : Int) := by omega
  have hz : (((j + 1 : Nat) : Int) == 0) = false := by simp; omega
  have hz2 : ((j : Int) + 1 == 0) = false := by simp; omega
  have k3 : IntKind.i64.wrap ((j : Int) + 1 - 1) = (j : Int) := by rw [show (j : Int) + 1 - 1 = (j : Int) from by omega]; exact IntWalk.i64_in _ (by omega)
  have k5 : IntKind.i64.wrap (j : Int) = (j : Int) := IntWalk.i64_in _ (by omega)
  have k1 : IntKind.i64.wrap (((j + 1 : Nat) : Int) - 1) = (j : Int) := by rw [show ((j + 1 : Nat) : Int) - 1 = (j : Int) from by omega]; exact IntWalk.i64_in _ (by omega)
  have k2 : ((j + 1 : Nat) : Int) - 1 = (j : Int) := by omega
  have hqI : (q : Int) < (n : Int) := by omega
  have hqpI : (qp : Int) < (n : Int) := by omega
  have bR := Blk.new w 60 (rnA ⟨q, rf, rt, rc⟩)
  have q0 := bR.cell 0
  have q1 := bR.cell 1
  have hst2 := hst.alloc (.cells (rnA ⟨q, rf, rt, rc⟩) 60)
  have hcu := hst2.cell hqn
  rw [huq] at hcu
  have hfr := hst2.frozen q
  have hgw : g < w.heap.size := hst.lt
  have HI := Lib.hid (fun w => isindex_b (q : Int) (some ⟨bz, oz, none⟩) n c (by omega) true (decide_eq_true ⟨by omega, by omega⟩) w)
  obtain ⟨w2, hw2⟩ : ∃ w2, w2 = (w.setCell ⟨g, q, none⟩ (.bool true)).alloc (.cells (rnA ⟨q, rf, rt, rc⟩) 60) := ⟨_, rfl⟩
  have hB2 : Below w0.heap.size w0 w2 := by rw [hw2]; exact (hB.setCell (p := ⟨g, q, none⟩) hg _).alloc (by simpa using hB.size) _
  have hst3 : StB w2 g n (fun t => if t = q then true else u t) := by rw [hw2]; exact (hst.set (f' := fun t => if t = q then true else u t) q true (fun t _ => rfl)).alloc _
  have bR2 : Blk w2 w.heap.size 60 (rnA ⟨q, rf, rt, rc⟩) := by
    rw [hw2]
    have := Blk.new (w.setCell ⟨g, q, none⟩ (.bool true)) 60 (rnA ⟨q, rf, rt, rc⟩)
    simpa using this
  have hsz : w.heap.size < w2.heap.size := bR2.lt
  have hgw2 : g < w2.heap.size := by omega
  have HIW := Lib.hid (fun s : Ext w2 => hI.below (hB2.trans (s.h.mono hB2.size)))
  have rp2 := rangeAt_below rp hbx hB2
  have hbx2 : bx < w2.heap.size := Nat.lt_of_lt_of_le hbx hB2.size
  have hbz2 : bz < w2.heap.size := Nat.lt_of_lt_of_le hbz hB2.size
  have e1 := bts_cells hbz hcz hB2 (i := q) (by omega)
  have e2 := bts_cells hbz hcz hB2 (i := qp) (by omega)
  have y0 := fun s : Ext w2 => s.cell (p := ⟨w.heap.size, 0, none⟩) ((bR2.cell 0).trans rfl)
  have y1 := fun s : Ext w2 => s.cell (p := ⟨w.heap.size, 1, none⟩) ((bR2.cell 1).trans rfl)
  have y2 := fun s : Ext w2 => s.cell (p := ⟨w.heap.size, 2, none⟩) ((bR2.cell 2).trans rfl)
  have y3 := fun s : Ext w2 => s.cell (p := ⟨w.heap.size, 3, none⟩) ((bR2.cell 3).trans rfl)
  have y4 := fun s : Ext w2 => (rn_cells (ext_range s rp2 hbx2)).2.2.1
  have HS3 := Lib.hid hst3
  have HB2 := Lib.hid hB2
  have HBR := Lib.hid bR2
  have HRP := Lib.hid rp2
  have HE1 := Lib.hid e1
  have HE2 := Lib.hid e2
  have h3' : ¬ rf < 0 := by omega
  have HE := Lib.hid he
  have HW2 := Lib.hid hw2
  clear hX hcx hr hr' hp hp' hB hst hm hrw hst3 hB2 bR2 hv hmv he hI hst2 bR hw2 huq rp rp2 e1 e2 hcz
  by_cases hlt : rf < pt
  · have HF : Hid (e = 73) := Lib.hid (by rw [HE.out, if_pos (.inl hlt)])
    go_enter Tryz.func64, Tryz.ntmps64
    go_wp2_with (refine ldm_rn r1 rfl _ rfl rfl ?_)
    refine (HI.out _).mono ?_
    rintro e w3 ⟨rfl, hw3⟩
    subst hw3
    go_wp2
    rw [← HW2.out]
    clear r1 q0 q1 hcu hfr
    refine wp_region_ext (by kernel_rfl) (by kernel_rfl) ?_
    repeat (go_big_quiet_step (fail))
    refine wpQuiet_nil ?_
    rintro _ ⟨s, rfl⟩
    go_wp2
    go_ret
    exact ⟨by rw [HF.out]; rfl, HB2.out.trans (s.h.mono HB2.out.size), HS3.out.below s.h hgw2⟩
  have hd : decide (rf < pt) = false := decide_eq_false hlt
  cases v
  · have HF : Hid (e = 73) := Lib.hid (by rw [HE.out, if_pos (.inr rfl)])
    go_enter Tryz.func64, Tryz.ntmps64
    go_wp2_with (refine ldm_rn r1 rfl _ rfl rfl ?_)
    refine (HI.out _).mono ?_
    rintro e w3 ⟨rfl, hw3⟩
    subst hw3
    go_wp2
    rw [← HW2.out]
    clear r1 q0 q1 hcu hfr
    refine wp_region_ext (by kernel_rfl) (by kernel_rfl) ?_
    repeat (go_big_quiet_step ((go_at_call 85; refine calls_ext (HER.out _ (HIW.out _)))))
    refine wpQuiet_nil ?_
    rintro _ ⟨s, rfl⟩
    go_wp2
    go_ret
    exact ⟨by rw [HF.out]; rfl, HB2.out.trans (s.h.mono HB2.out.size), HS3.out.below s.h hgw2⟩
  · have HG : Hid (e = if rc = false ∧ mv = false then 61 else 0) := Lib.hid (by rw [HE.out, if_neg (by rintro (h | h); exact hlt h; cases h)])
    clear HE
    cases rc
    · cases mv
      · have HF : Hid (e = 61) := Lib.hid HG.out
        go_enter Tryz.func64, Tryz.ntmps64
        go_wp2_with (refine ldm_rn r1 rfl _ rfl rfl ?_)
        refine (HI.out _).mono ?_
        rintro e w3 ⟨rfl, hw3⟩
        subst hw3
        go_wp2
        rw [← HW2.out]
        clear r1 q0 q1 hcu hfr
        refine wp_region_ext (by kernel_rfl) (by kernel_rfl) ?_
        repeat (go_big_quiet_step ((go_at_call 85; refine calls_ext (HER.out _ (HIW.out _)))))
        refine wpQuiet_nil ?_
        rintro _ ⟨s, rfl⟩
        have hs := s.h
        generalize s.w = W at hs ⊢
        have z0 := fun s : Ext W => s.cell (p := ⟨w.heap.size, 0, none⟩) (((HBR.out.below hs hsz).cell 0).trans rfl)
        have z3 := fun s : Ext W => s.cell (p := ⟨w.heap.size, 3, none⟩) (((HBR.out.below hs hsz).cell 3).trans rfl)
        have hbxW : bx < W.heap.size := Nat.lt_of_lt_of_le hbx2 hs.size
        have hbzW : bz < W.heap.size := Nat.lt_of_lt_of_le hbz2 hs.size
        have z4 := fun s : Ext W => (rn_cells (ext_range s (rangeAt_below HRP.out hbx2 hs) hbxW)).1
        have a10 := fun s : Ext W => (bt_cells (ext_range s (rangeAt_below HE1.out hbz2 hs) hbzW)).1
        have a11 := fun s : Ext W => (bt_cells (ext_range s (rangeAt_below HE1.out hbz2 hs) hbzW)).2.1
        have a12 := fun s : Ext W => (bt_cells (ext_range s (rangeAt_below HE1.out hbz2 hs) hbzW)).2.2.1
        have a13 := fun s : Ext W => (bt_cells (ext_range s (rangeAt_below HE1.out hbz2 hs) hbzW)).2.2.2.1
        have a14 := fun s : Ext W => (bt_cells (ext_range s (rangeAt_below HE1.out hbz2 hs) hbzW)).2.2.2.2.1
        have a15 := fun s : Ext W => (bt_cells (ext_range s (rangeAt_below HE1.out hbz2 hs) hbzW)).2.2.2.2.2.1
        have a16 := fun s : Ext W => (bt_cells (ext_range s (rangeAt_below HE1.out hbz2 hs) hbzW)).2.2.2.2.2.2
        have a20 := fun s : Ext W => (bt_cells (ext_range s (rangeAt_below HE2.out hbz2 hs) hbzW)).1
        have a21 := fun s : Ext W => (bt_cells (ext_range s (rangeAt_below HE2.out hbz2 hs) hbzW)).2.1
        have a22 := fun s : Ext W => (bt_cells (ext_range s (rangeAt_below HE2.out hbz2 hs) hbzW)).2.2.1
        have a23 := fun s : Ext W => (bt_cells (ext_range s (rangeAt_below HE2.out hbz2 hs) hbzW)).2.2.2.1
        have a24 := fun s : Ext W => (bt_cells (ext_range s (rangeAt_below HE2.out hbz2 hs) hbzW)).2.2.2.2.1
        have a25 := fun s : Ext W => (bt_cells (ext_range s (rangeAt_below HE2.out hbz2 hs) hbzW)).2.2.2.2.2.1
        have a26 := fun s : Ext W => (bt_cells (ext_range s (rangeAt_below HE2.out hbz2 hs) hbzW)).2.2.2.2.2.2
        have HB3 := Lib.hid (HB2.out.trans (hs.mono HB2.out.size))
        have HS4 := Lib.hid (HS3.out.below hs hgw2)
        clear y0 y1 y2 y3 y4 hs
        go_wp2
        refine wp_region_ext (by kernel_rfl) (by kernel_rfl) ?_
        repeat (go_big_quiet_step (((go_at_call 68; refine calls_ext (HMAY.out _)))))
        refine wpQuiet_nil ?_
        rintro _ ⟨s, rfl⟩
        go_wp2
        go_ret
        exact ⟨by rw [HF.out]; rfl, HB3.out.trans (s.h.mono HB3.out.size), HS4.out.below s.h HS4.out.lt⟩
      · have HF : Hid (e = 0) := Lib.hid HG.out
        go_enter Tryz.func64, Tryz.ntmps64
        go_wp2_with (refine ldm_rn r1 rfl _ rfl rfl ?_)
        refine (HI.out _).mono ?_
        rintro e w3 ⟨rfl, hw3⟩
        subst hw3
        go_wp2
        rw [← HW2.out]
        clear r1 q0 q1 hcu hfr
        refine wp_region_ext (by kernel_rfl) (by kernel_rfl) ?_
        repeat (go_big_quiet_step ((go_at_call 85; refine calls_ext (HER.out _ (HIW.out _)))))
        refine wpQuiet_nil ?_
        rintro _ ⟨s, rfl⟩
        have hs := s.h
        generalize s.w = W at hs ⊢
        have z0 := fun s : Ext W => s.cell (p := ⟨w.heap.size, 0, none⟩) (((HBR.out.below hs hsz).cell 0).trans rfl)
        have z3 := fun s : Ext W => s.cell (p := ⟨w.heap.size, 3, none⟩) (((HBR.out.below hs hsz).cell 3).trans rfl)
        have hbxW : bx < W.heap.size := Nat.lt_of_lt_of_le hbx2 hs.size
        have hbzW : bz < W.heap.size := Nat.lt_of_lt_of_le hbz2 hs.size
        have z4 := fun s : Ext W => (rn_cells (ext_range s (rangeAt_below HRP.out hbx2 hs) hbxW)).1
        have a10 := fun s : Ext W => (bt_cells (ext_range s (rangeAt_below HE1.out hbz2 hs) hbzW)).1
        have a11 := fun s : Ext W => (bt_cells (ext_range s (rangeAt_below HE1.out hbz2 hs) hbzW)).2.1
        have a12 := fun s : Ext W => (bt_cells (ext_range s (rangeAt_below HE1.out hbz2 hs) hbzW)).2.2.1
        have a13 := fun s : Ext W => (bt_cells (ext_range s (rangeAt_below HE1.out hbz2 hs) hbzW)).2.2.2.1
        have a14 := fun s : Ext W => (bt_cells (ext_range s (rangeAt_below HE1.out hbz2 hs) hbzW)).2.2.2.2.1
        have a15 := fun s : Ext W => (bt_cells (ext_range s (rangeAt_below HE1.out hbz2 hs) hbzW)).2.2.2.2.2.1
        have a16 := fun s : Ext W => (bt_cells (ext_range s (rangeAt_below HE1.out hbz2 hs) hbzW)).2.2.2.2.2.2
        have a20 := fun s : Ext W => (bt_cells (ext_range s (rangeAt_below HE2.out hbz2 hs) hbzW)).1
        have a21 := fun s : Ext W => (bt_cells (ext_range s (rangeAt_below HE2.out hbz2 hs) hbzW)).2.1
        have a22 := fun s : Ext W => (bt_cells (ext_range s (rangeAt_below HE2.out hbz2 hs) hbzW)).2.2.1
        have a23 := fun s : Ext W => (bt_cells (ext_range s (rangeAt_below HE2.out hbz2 hs) hbzW)).2.2.2.1
        have a24 := fun s : Ext W => (bt_cells (ext_range s (rangeAt_below HE2.out hbz2 hs) hbzW)).2.2.2.2.1
        have a25 := fun s : Ext W => (bt_cells (ext_range s (rangeAt_below HE2.out hbz2 hs) hbzW)).2.2.2.2.2.1
        have a26 := fun s : Ext W => (bt_cells (ext_range s (rangeAt_below HE2.out hbz2 hs) hbzW)).2.2.2.2.2.2
        have HB3 := Lib.hid (HB2.out.trans (hs.mono HB2.out.size))
        have HS4 := Lib.hid (HS3.out.below hs hgw2)
        clear y0 y1 y2 y3 y4 hs
        go_wp2
        refine wp_region_ext (by kernel_rfl) (by kernel_rfl) ?_
        repeat (go_big_quiet_step (((go_at_call 68; refine calls_ext (HMAY.out _)))))
        refine wpQuiet_nil ?_
        rintro _ ⟨s, rfl⟩
        go_wp2
        go_ret
        exact ⟨by rw [HF.out]; rfl, HB3.out.trans (s.h.mono HB3.out.size), HS4.out.below s.h HS4.out.lt⟩
    · have HF : Hid (e = 0) := Lib.hid HG.out
      go_enter Tryz.func64, Tryz.ntmps64
      go_wp2_with (refine ldm_rn r1 rfl _ rfl rfl ?_)
      refine (HI.out _).mono ?_
      rintro e w3 ⟨rfl, hw3⟩
      subst hw3
      go_wp2
      rw [← HW2.out]
      clear r1 q0 q1 hcu hfr
      refine wp_region_ext (by kernel_rfl) (by kernel_rfl) ?_
      repeat (go_big_quiet_step ((go_at_call 85; refine calls_ext (HER.out _ (HIW.out _)))))
      refine wpQuiet_nil ?_
      rintro _ ⟨s, rfl⟩
      have hs := s.h
      generalize s.w = W at hs ⊢
      have z0 := fun s : Ext W => s.cell (p := ⟨w.heap.size, 0, none⟩) (((HBR.out.below hs hsz).cell 0).trans rfl)
      have z3 := fun s : Ext W => s.cell (p := ⟨w.heap.size, 3, none⟩) (((HBR.out.below hs hsz).cell 3).trans rfl)
      have hbxW : bx < W.heap.size := Nat.lt_of_lt_of_le hbx2 hs.size
      have hbzW : bz < W.heap.size := Nat.lt_of_lt_of_le hbz2 hs.size
      have z4 := fun s : Ext W => (rn_cells (ext_range s (rangeAt_below HRP.out hbx2 hs) hbxW)).1
      have a10 := fun s : Ext W => (bt_cells (ext_range s (rangeAt_below HE1.out hbz2 hs) hbzW)).1
      have a11 := fun s : Ext W => (bt_cells (ext_range s (rangeAt_below HE1.out hbz2 hs) hbzW)).2.1
      have a12 := fun s : Ext W => (bt_cells (ext_range s (rangeAt_below HE1.out hbz2 hs) hbzW)).2.2.1
      have a13 := fun s : Ext W => (bt_cells (ext_range s (rangeAt_below HE1.out hbz2 hs) hbzW)).2.2.2.1
      have a14 := fun s : Ext W => (bt_cells (ext_range s (rangeAt_below HE1.out hbz2 hs) hbzW)).2.2.2.2.1
      have a15 := fun s : Ext W => (bt_cells (ext_range s (rangeAt_below HE1.out hbz2 hs) hbzW)).2.2.2.2.2.1
      have a16 := fun s : Ext W => (bt_cells (ext_range s (rangeAt_below HE1.out hbz2 hs) hbzW)).2.2.2.2.2.2
      have a20 := fun s : Ext W => (bt_cells (ext_range s (rangeAt_below HE2.out hbz2 hs) hbzW)).1
      have a21 := fun s : Ext W => (bt_cells (ext_range s (rangeAt_below HE2.out hbz2 hs) hbzW)).2.1
      have a22 := fun s : Ext W => (bt_cells (ext_range s (rangeAt_below HE2.out hbz2 hs) hbzW)).2.2.1
      have a23 := fun s : Ext W => (bt_cells (ext_range s (rangeAt_below HE2.out hbz2 hs) hbzW)).2.2.2.1
      have a24 := fun s : Ext W => (bt_cells (ext_range s (rangeAt_below HE2.out hbz2 hs) hbzW)).2.2.2.2.1
      have a25 := fun s : Ext W => (bt_cells (ext_range s (rangeAt_below HE2.out hbz2 hs) hbzW)).2.2.2.2.2.1
      have a26 := fun s : Ext W => (bt_cells (ext_range s (rangeAt_below HE2.out hbz2 hs) hbzW)).2.2.2.2.2.2
      have HB3 := Lib.hid (HB2.out.trans (hs.mono HB2.out.size))
      have HS4 := Lib.hid (HS3.out.below hs hgw2)
      clear y0 y1 y2 y3 y4 hs
      go_wp2
      refine wp_region_ext (by kernel_rfl) (by kernel_rfl) ?_
      repeat (go_big_quiet_step (fail))
      refine wpQuiet_nil ?_
      rintro _ ⟨s, rfl⟩
      go_wp2
      go_ret
      exact ⟨by rw [HF.out]; rfl, HB3.out.trans (s.h.mono HB3.out.size), HS4.out.below s.h HS4.out.lt⟩
end Go.Proofs.YtlfbfdhdkccaeaaGreat

