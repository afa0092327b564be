/- canPair, Valid, checkList, isIndex, of the program. -/
import Derived.Test.YtmjnlmmjfbpogaaV1
namespace Go.Proofs.Ytmjnlmmjfbpogaa
open Go.RowKit Go.Shelf

theorem neB {a b : Int} : (a != b) = decide (a ≠ b) := by rw [Bool.eq_iff_iff]; simp
theorem eqB {a b : Int} : (a == b) = decide (a = b) := by rw [Bool.eq_iff_iff]; simp

set_option maxRecDepth 100000 in
set_option maxHeartbeats 1000000 in
theorem canpair_b (a b : Pl.Tm) (tol : Int) (v : Bool) (hv : Pl.can a b tol = v) (k1 : IntKind.i64.wrap (a.len - b.len) = a.len - b.len) (k2 : IntKind.i64.wrap (-tol) = -tol) (w : World) :
    Calls Try.prog 49 #[.agg (tmA a), .agg (tmA b), .int .i64 tol] w fun e w' => e = .returned (.bool v) ∧ Below w.heap.size w w' := by
  unfold Pl.can at hv
  have hB := ((Below.refl w.heap.size w).alloc (Nat.le_refl _) (.cells (tmA a) 24)).alloc (by simp) (.cells (tmA b) 24)
  have bA := (Blk.new w 24 (tmA a)).alloc (.cells (tmA b) 24)
  have bB := Blk.new (w.alloc (.cells (tmA a) 24)) 24 (tmA b)
  simp only [World.size_alloc] at bB
  have q1 := bA.cell 1
  have q2 := bA.cell 2
  have q3 := bA.cell 3
  have r1 := bB.cell 1
  have r2 := bB.cell 2
  have r3 := bB.cell 3
  obtain ⟨x1, h1⟩ : ∃ x, decide (a.side ≠ b.side) = x := ⟨_, rfl⟩
  obtain ⟨x2, h2⟩ : ∃ x, decide (a.col = b.col) = x := ⟨_, rfl⟩
  obtain ⟨x3, h3⟩ : ∃ x, Pl.inB (-tol) (a.len - b.len) tol = x := ⟨_, rfl⟩
  have E1 : (a.side != b.side) = x1 := neB.trans h1
  have E2 : (a.col == b.col) = x2 := eqB.trans h2
  rw [h1, h2, h3] at hv
  have H3 := Lib.hid h3
  have HV := Lib.hid hv.symm
  clear hv h1 h2 h3 bA bB
  cases x1
  · go_enter Try.func49, Try.ntmps49
    go_wp2_with fail
    go_ret
    exact ⟨by rw [HV.out]; rfl, hB⟩
  cases x2
  · go_enter Try.func49, Try.ntmps49
    go_wp2_with fail
    go_ret
    exact ⟨by rw [HV.out]; rfl, hB⟩
  · go_enter Try.func49, Try.ntmps49
    go_wp2_with (go_at_call 72; refine (within_any _ _ _ _).mono ?_; rintro e w1 ⟨rfl, rfl⟩; rw [H3.out])
    go_ret
    exact ⟨by rw [HV.out]; rfl, hB⟩

theorem num_wf {s : Pl.Tm} (h : Pl.vt s = true) : (Lit.int .i64 s.num).wf = true := by
  have hv := Pl.vt_true.1 h
  have h1 := hv.n1
  have h2 := hv.n2
  exact WalkArith.wf_i64 (by omega)

set_option maxRecDepth 100000 in
set_option maxHeartbeats 8000000 in
theorem valid_any (A : Option Addr) (l : List Pl.Tm) (c : Nat) (w : World) (hI : Tms w A l) :
    Calls Try.prog 18 #[.slice A l.length c] w fun e w' => e = .returned (.bool (Pl.vs l)) ∧ Below w.heap.size w w' := by
  have HV : Hid (Pl.vs l = (decide (l.length ≤ 60) && Pl.vl l [])) := Lib.hid rfl
  generalize Pl.vs l = V at *
  have HI := Lib.hid hI
  clear hI
  go_enter Try.func18, Try.ntmps18
  by_cases hlen : (60 : Int) < (l.length : Int)
  · have HL : Hid (V = false) := Lib.hid (by rw [HV.out]; simp; omega)
    go_wp2
    go_ret
    exact ⟨by rw [HL.out]; rfl, Below.refl _ _⟩
  · have HL : Hid (Pl.vl (l.drop 0) [] = V) := Lib.hid (by rw [HV.out, List.drop_zero, decide_eq_true (by omega)]; rfl)
    have hlen' : l.length ≤ 60 := by omega
    clear HV
    have hB0 := (Below.refl w.heap.size w).alloc (Nat.le_refl _) (.map #[] 0)
    have hS0 := Seen.made w
    have hmm := @run_makeMap Try.prog
    go_wp2
    clear hmm
    go_loopw [5, 12] (fun _ i wr => ∃ k : Nat, ∃ s : List Int, k ≤ l.length ∧ i = .int .i64 k ∧ Seen wr w.heap.size k s ∧ Hid (Pl.vl (l.drop k) s = V) ∧ Below w.heap.size w wr) (fun _ i _ => l.length - (intOf i).toNat)
    case atStart => exact ⟨0, [], Nat.zero_le _, rfl, hS0, HL, hB0⟩
    case round =>
      clear hS0 hB0 HL
      obtain ⟨k, s, hk, rfl, hS, hvl, hB⟩ := hrel
      obtain ⟨wo, rfl⟩ : ∃ wo, wo = wr := ⟨_, rfl⟩
      by_cases hlt : k < l.length
      · obtain ⟨bz, oz, rfl, hbz, hcz⟩ : ∃ bb off, A = some ⟨bb, off, none⟩ ∧ bb < w.heap.size ∧ ∀ j, j < l.length → w.rangeAt bb (off + j * 4) (tmA (l.getD j Pl.zt)).toList := by
          rcases HI.out with h | ⟨bb, off, he, hb, hc⟩
          · rw [h] at hlt; simp at hlt
          · exact ⟨bb, off, he, hb, hc⟩
        have hck := rangeAt_below (hcz k hlt) hbz hB
        have hvl2 := Lib.hid (hvl.out.symm.trans (Pl.vl_step hlt))
        clear hcz hvl
        generalize l.getD k Pl.zt = E at *
        have bE : Blk (wo.alloc (.cells (tmA E) 24)) wo.heap.size 24 (tmA E) := Blk.new wo _ _
        have hB1 := hB.alloc hB.size (.cells (tmA E) 24)
        have hS1 := hS.below ((Below.refl wo.heap.size wo).alloc (Nat.le_refl _) (.cells (tmA E) 24))
        obtain ⟨v, hv⟩ : ∃ v, Pl.vt E = v := ⟨_, rfl⟩
        rw [hv] at hvl2
        have HVV := Lib.hid hv
        go_wp2_with (refine ldm_tm hck rfl _ rfl rfl ?_)
        refine (vtemple_b E v HVV.out _).mono ?_
        rintro e w1 ⟨rfl, hb1⟩
        have bE1 := bE.below hb1 bE.lt
        have hS2 := hS1.below hb1
        have hB2 := hB1.trans (hb1.mono hB1.size)
        clear hS1 hB1 hb1 bE hS hB hck
        have hr1 := bE1.cell 0
        have hbz1 := bE1.lt
        generalize wo.heap.size = be at *
        cases v with
        | false =>
          have HF : Hid (V = false) := Lib.hid (by rw [hvl2.out]; rfl)
          clear hvl2
          go_wp2
          go_ret
          exact ⟨by rw [HF.out]; rfl, hB2⟩
        | true =>
          have hwf := Lib.hid (num_wf hv)
          obtain ⟨m, hm⟩ : ∃ m, decide (E.num ∈ s) = m := ⟨_, rfl⟩
          have hlk : (Instr.lookup 71 (.map (some w.heap.size)) (.int .i64 E.num) false).run Try.prog w1 = .ok (.bool m) w1 := by
            rw [hS2.look hwf.out, hm]
          have hvl3 : Hid (V = (!m && Pl.vl (l.drop (k + 1)) (E.num :: s))) := Lib.hid (by rw [hvl2.out, ← hm]; rfl)
          clear hvl2 hm hv
          cases m with
          | true =>
            have HF : Hid (V = false) := Lib.hid (by rw [hvl3.out]; rfl)
            go_wp2
            go_ret
            exact ⟨by rw [HF.out]; rfl, hB2⟩
          | false =>
            have hvl4 : Hid (Pl.vl (l.drop (k + 1)) (E.num :: s) = V) := Lib.hid (by rw [hvl3.out]; rfl)
            obtain ⟨w4, hrun, hS5, hg⟩ := hS2.store (by unfold maxLen; omega) hwf.out
            have hB5 := hB2.grown hg hB2.size (fun k e => by cases e; exact Nat.le_refl _)
            clear hS2 hB2 hg bE1
            go_wp2
            go_roundw
            case rel => exact ⟨k + 1, _, by omega, by go_num, hS5, hvl4, hB5⟩
            case measure => simp [intOf]; omega
      · obtain rfl : k = l.length := by omega
        have HT : Hid (V = true) := Lib.hid (by rw [← hvl.out, Pl.vl_end])
        go_wp2
        go_ret
        exact ⟨by rw [HT.out]; rfl, hB⟩

set_option maxRecDepth 100000 in
set_option maxHeartbeats 1000000 in
theorem checklist_b (A : Option Addr) (l : List Pl.Tm) (c : Nat) (tol : Int) (v : Int) (hv : Pl.ck l tol = v) (w : World) (hI : Tms w A l) :
    Calls Try.prog 48 #[.slice A l.length c, .int .i64 tol] w fun e w' => e = .returned (.int .i64 v) ∧ Below w.heap.size w w' := by
  unfold Pl.ck at hv
  have HC := Lib.hid (valid_any A l c w hI)
  obtain ⟨x2, h2⟩ : ∃ x, Pl.inB 0 tol 1000 = x := ⟨_, rfl⟩
  have H2 := Lib.hid h2
  rw [h2] at hv
  have HV := Lib.hid hv.symm
  clear hv h2 hI
  generalize Pl.vs l = x1 at *
  cases x1 <;> cases x2 <;>
  (go_enter Try.func48, Try.ntmps48
   go_wp2_with fail
   refine HC.out.mono ?_
   rintro e w1 ⟨rfl, hb⟩
   go_wp2_with (go_at_call 72; refine (within_any _ _ _ _).mono ?_; rintro e w1 ⟨rfl, rfl⟩; rw [H2.out])
   go_ret
   exact ⟨by rw [HV.out]; rfl, hb⟩)

set_option maxHeartbeats 400000 in
theorem isindex_b (i : Int) (A : Option Addr) (n c : Nat) (hn : n ≤ 1000) (v : Bool) (hv : decide (0 ≤ i ∧ i < n) = v) (w : World) :
    Calls Try.prog 61 #[.int .i64 i, .slice A n c] w fun e w' => e = .returned (.bool v) ∧ w' = w := by
  have HV : Hid (Pl.inB 0 i ((n : Int) - 1) = v) := Lib.hid (by rw [← hv, Bool.eq_iff_iff, Pl.inB_true, decide_eq_true_iff]; omega)
  clear hv
  go_enter Try.func61, Try.ntmps61
  go_wp2_with (go_at_call 72; refine (within_any _ _ _ _).mono ?_; rintro e w1 ⟨rfl, rfl⟩; rw [HV.out])
  go_ret
  exact ⟨rfl, rfl⟩
end Go.Proofs.Ytmjnlmmjfbpogaa
