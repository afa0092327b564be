/- validBatch of the document; Valid, isIndex, of both. -/
import Derived.Test.YtlfbfdhdkccaeaaGreatV1
namespace Go.Proofs.YtlfbfdhdkccaeaaGreat
open Go.RowKit Go.Shelf

set_option maxRecDepth 100000 in
set_option maxHeartbeats 8000000 in
theorem rvbatch_b (t : Pl.Bt) (v : Bool) (hv : Pl.vb t = v) (w : World) :
    Calls Tryz.prog 15 #[.agg (btA t)] w fun e w' => e = .returned (.bool v) ∧ Below w.heap.size w w' := by
  have hB := (Below.refl w.heap.size w).alloc (Nat.le_refl _) (.cells (btA t) 48)
  have bT := Blk.new w 48 (btA t)
  have q0 := bT.cell 0
  have q1 := bT.cell 1
  have q2 := bT.cell 2
  have q3 := bT.cell 3
  have q4 := bT.cell 4
  have q5 := bT.cell 5
  have q6 := bT.cell 6
  clear bT
  have HV : Hid (v = (((decide (0 ≤ t.h0) && decide (t.h0 ≤ 100)) && ((decide (0 ≤ t.h1) && decide (t.h1 ≤ 100)) && ((decide (0 ≤ t.h2) && decide (t.h2 ≤ 100)) && (decide (0 ≤ t.h3) && decide (t.h3 ≤ 100))))) && ((decide (1 ≤ t.num) && decide (t.num ≤ 1000000000)) && ((decide (0 ≤ t.dark) && decide (t.dark ≤ 9)) && (decide (0 ≤ t.grain) && decide (t.grain ≤ 9)))))) := Lib.hid hv.symm
  clear hv
  go_enter Tryz.func15, Tryz.ntmps15
  go_wp2
  go_loop [3] (fun i => ∃ k : Nat, k ≤ 4 ∧ i = .int .i64 k ∧ (1 ≤ k → 0 ≤ t.h0 ∧ t.h0 ≤ 100) ∧ (2 ≤ k → 0 ≤ t.h1 ∧ t.h1 ≤ 100) ∧ (3 ≤ k → 0 ≤ t.h2 ∧ t.h2 ≤ 100) ∧ (4 ≤ k → 0 ≤ t.h3 ∧ t.h3 ≤ 100)) (fun i => 4 - (intOf i).toNat)
  case atStart => exact ⟨0, by omega, rfl, fun h => absurd h (by omega), fun h => absurd h (by omega), fun h => absurd h (by omega), fun h => absurd h (by omega)⟩
  case round =>
    obtain ⟨k, hk, rfl, a0, a1, a2, a3⟩ := hrel
    have A0 := Lib.hid a0
    have A1 := Lib.hid a1
    have A2 := Lib.hid a2
    have A3 := Lib.hid a3
    clear a0 a1 a2 a3
    have hk5 : k = 0 ∨ k = 1 ∨ k = 2 ∨ k = 3 ∨ k = 4 := by omega
    rcases hk5 with rfl | rfl | rfl | rfl | rfl
    · by_cases c1 : t.h0 < 0
      · have HF : Hid (v = false) := Lib.hid (by rw [HV.out]; simp; intros; omega)
        go_wp2
        go_ret
        exact ⟨by rw [HF.out]; rfl, hB⟩
      by_cases c2 : 100 < t.h0
      · have HF : Hid (v = false) := Lib.hid (by rw [HV.out]; simp; intros; omega)
        go_wp2
        go_ret
        exact ⟨by rw [HF.out]; rfl, hB⟩
      have HC : Hid (0 ≤ t.h0 ∧ t.h0 ≤ 100) := Lib.hid ⟨by omega, by omega⟩
      go_wp2
      go_round
      case rel => exact ⟨1, by omega, by simp, fun _ => HC.out, fun h => absurd h (by omega), fun h => absurd h (by omega), fun h => absurd h (by omega)⟩
      case measure => simp [intOf]
    · by_cases c1 : t.h1 < 0
      · have HF : Hid (v = false) := Lib.hid (by rw [HV.out]; simp; intros; omega)
        go_wp2
        go_ret
        exact ⟨by rw [HF.out]; rfl, hB⟩
      by_cases c2 : 100 < t.h1
      · have HF : Hid (v = false) := Lib.hid (by rw [HV.out]; simp; intros; omega)
        go_wp2
        go_ret
        exact ⟨by rw [HF.out]; rfl, hB⟩
      have HC : Hid (0 ≤ t.h1 ∧ t.h1 ≤ 100) := Lib.hid ⟨by omega, by omega⟩
      go_wp2
      go_round
      case rel => exact ⟨2, by omega, by simp, fun _ => A0.out (by omega), fun _ => HC.out, fun h => absurd h (by omega), fun h => absurd h (by omega)⟩
      case measure => simp [intOf]
    · by_cases c1 : t.h2 < 0
      · have HF : Hid (v = false) := Lib.hid (by rw [HV.out]; simp; intros; omega)
        go_wp2
        go_ret
        exact ⟨by rw [HF.out]; rfl, hB⟩
      by_cases c2 : 100 < t.h2
      · have HF : Hid (v = false) := Lib.hid (by rw [HV.out]; simp; intros; omega)
        go_wp2
        go_ret
        exact ⟨by rw [HF.out]; rfl, hB⟩
      have HC : Hid (0 ≤ t.h2 ∧ t.h2 ≤ 100) := Lib.hid ⟨by omega, by omega⟩
      go_wp2
      go_round
      case rel => exact ⟨3, by omega, by simp, fun _ => A0.out (by omega), fun _ => A1.out (by omega), fun _ => HC.out, fun h => absurd h (by omega)⟩
      case measure => simp [intOf]
    · by_cases c1 : t.h3 < 0
      · have HF : Hid (v = false) := Lib.hid (by rw [HV.out]; simp; intros; omega)
        go_wp2
        go_ret
        exact ⟨by rw [HF.out]; rfl, hB⟩
      by_cases c2 : 100 < t.h3
      · have HF : Hid (v = false) := Lib.hid (by rw [HV.out]; simp; intros; omega)
        go_wp2
        go_ret
        exact ⟨by rw [HF.out]; rfl, hB⟩
      have HC : Hid (0 ≤ t.h3 ∧ t.h3 ≤ 100) := Lib.hid ⟨by omega, by omega⟩
      go_wp2
      go_round
      case rel => exact ⟨4, by omega, by simp, fun _ => A0.out (by omega), fun _ => A1.out (by omega), fun _ => A2.out (by omega), fun _ => HC.out⟩
      case measure => simp [intOf]
    · have g0 := A0.out (by omega)
      have g1 := A1.out (by omega)
      have g2 := A2.out (by omega)
      have g3 := A3.out (by omega)
      have HV2 : Hid (v = ((decide (1 ≤ t.num) && decide (t.num ≤ 1000000000)) && ((decide (0 ≤ t.dark) && decide (t.dark ≤ 9)) && (decide (0 ≤ t.grain) && decide (t.grain ≤ 9))))) := Lib.hid (by rw [HV.out]; simp [g0, g1, g2, g3])
      clear HV A0 A1 A2 A3 g0 g1 g2 g3 q3 q4 q5 q6
      by_cases d0 : 1 ≤ t.num
      rotate_left
      · have HF : Hid (v = false) := Lib.hid (by rw [HV2.out]; simp [d0])
        clear HV2
        go_wp2
        go_ret
        exact ⟨by rw [HF.out]; rfl, hB⟩
      by_cases d1 : t.num ≤ 1000000000
      rotate_left
      · have HF : Hid (v = false) := Lib.hid (by rw [HV2.out]; simp [d1])
        clear HV2
        go_wp2
        go_ret
        exact ⟨by rw [HF.out]; rfl, hB⟩
      by_cases d2 : 0 ≤ t.dark
      rotate_left
      · have HF : Hid (v = false) := Lib.hid (by rw [HV2.out]; simp [d2])
        clear HV2
        go_wp2
        go_ret
        exact ⟨by rw [HF.out]; rfl, hB⟩
      by_cases d3 : t.dark ≤ 9
      rotate_left
      · have HF : Hid (v = false) := Lib.hid (by rw [HV2.out]; simp [d3])
        clear HV2
        go_wp2
        go_ret
        exact ⟨by rw [HF.out]; rfl, hB⟩
      by_cases d4 : 0 ≤ t.grain
      rotate_left
      · have HF : Hid (v = false) := Lib.hid (by rw [HV2.out]; simp [d4])
        clear HV2
        go_wp2
        go_ret
        exact ⟨by rw [HF.out]; rfl, hB⟩
      by_cases d5 : t.grain ≤ 9
      rotate_left
      · have HF : Hid (v = false) := Lib.hid (by rw [HV2.out]; simp [d5])
        clear HV2
        go_wp2
        go_ret
        exact ⟨by rw [HF.out]; rfl, hB⟩
      have HF : Hid (v = true) := Lib.hid (by rw [HV2.out]; simp [d0, d1, d2, d3, d4, d5])
      clear HV2
      go_wp2
      go_ret
      exact ⟨by rw [HF.out]; rfl, hB⟩

theorem neB {a b : Int} : (a != b) = decide (a ≠ b) := by rw [Bool.eq_iff_iff]; simp
theorem eqB {a b : Int} : (a == b) = decide (a = b) := by rw [Bool.eq_iff_iff]; simp

theorem num_wf {s : Pl.Bt} (h : Pl.vb s = true) : (Lit.int .i64 s.num).wf = true := by
  have hv := Pl.vb_true.1 h
  have h1 := hv.n1
  have h2 := hv.n2
  exact WalkArith.wf_i64 (by omega)

set_option maxRecDepth 100000 in
set_option maxHeartbeats 8000000 in
theorem valid_any (A : Option Addr) (l : List Pl.Bt) (c : Nat) (w : World) (hI : Bts w A l) :
    Calls Tryz.prog 16 #[.slice A l.length c] w fun e w' => e = .returned (.bool (Pl.vs l)) ∧ Below w.heap.size w w' := by
  have HV : Hid (Pl.vs l = (decide (l.length ≤ 40) && Pl.vl l [])) := Lib.hid rfl
  generalize Pl.vs l = V at *
  have HI := Lib.hid hI
  clear hI
  go_enter Tryz.func16, Tryz.ntmps16
  by_cases hlen : (40 : Int) < (l.length : Int)
  · have HL : Hid (V = false) := Lib.hid (by rw [HV.out]; simp; omega)
    go_wp2
    go_ret
    exact ⟨by rw [HL.out]; rfl, Below.refl _ _⟩
  · have HL : Hid (Pl.vl (l.drop 0) [] = V) := Lib.hid (by rw [HV.out, List.drop_zero, decide_eq_true (by omega)]; rfl)
    have hlen' : l.length ≤ 40 := by omega
    clear HV
    have hB0 := (Below.refl w.heap.size w).alloc (Nat.le_refl _) (.map #[] 0)
    have hS0 := Seen.made w
    have hmm := @run_makeMap Tryz.prog
    go_wp2
    clear hmm
    go_loopw [5, 12] (fun _ i wr => ∃ k : Nat, ∃ s : List Int, k ≤ l.length ∧ i = .int .i64 k ∧ Seen wr w.heap.size k s ∧ Hid (Pl.vl (l.drop k) s = V) ∧ Below w.heap.size w wr) (fun _ i _ => l.length - (intOf i).toNat)
    case atStart => exact ⟨0, [], Nat.zero_le _, rfl, hS0, HL, hB0⟩
    case round =>
      clear hS0 hB0 HL
      obtain ⟨k, s, hk, rfl, hS, hvl, hB⟩ := hrel
      obtain ⟨wo, rfl⟩ : ∃ wo, wo = wr := ⟨_, rfl⟩
      by_cases hlt : k < l.length
      · obtain ⟨bz, oz, rfl, hbz, hcz⟩ : ∃ bb off, A = some ⟨bb, off, none⟩ ∧ bb < w.heap.size ∧ ∀ j, j < l.length → w.rangeAt bb (off + j * 7) (btA (l.getD j Pl.zb)).toList := by
          rcases HI.out with h | ⟨bb, off, he, hb, hc⟩
          · rw [h] at hlt; simp at hlt
          · exact ⟨bb, off, he, hb, hc⟩
        have hck := rangeAt_below (hcz k hlt) hbz hB
        have hvl2 := Lib.hid (hvl.out.symm.trans (Pl.vl_step hlt))
        clear hcz hvl
        generalize l.getD k Pl.zb = E at *
        have bE : Blk (wo.alloc (.cells (btA E) 48)) wo.heap.size 48 (btA E) := Blk.new wo _ _
        have hB1 := hB.alloc hB.size (.cells (btA E) 48)
        have hS1 := hS.below ((Below.refl wo.heap.size wo).alloc (Nat.le_refl _) (.cells (btA E) 48))
        obtain ⟨v, hv⟩ : ∃ v, Pl.vb E = v := ⟨_, rfl⟩
        rw [hv] at hvl2
        have HVV := Lib.hid hv
        go_wp2_with (refine ldm_bt hck rfl _ rfl rfl ?_)
        refine (vbatch_b E v HVV.out _).mono ?_
        rintro e w1 ⟨rfl, hb1⟩
        have bE1 := bE.below hb1 bE.lt
        have hS2 := hS1.below hb1
        have hB2 := hB1.trans (hb1.mono hB1.size)
        clear hS1 hB1 hb1 bE hS hB hck
        have hr1 := bE1.cell 0
        have hbz1 := bE1.lt
        generalize wo.heap.size = be at *
        cases v with
        | false =>
          have HF : Hid (V = false) := Lib.hid (by rw [hvl2.out]; rfl)
          clear hvl2
          go_wp2
          go_ret
          exact ⟨by rw [HF.out]; rfl, hB2⟩
        | true =>
          have hwf := Lib.hid (num_wf hv)
          obtain ⟨m, hm⟩ : ∃ m, decide (E.num ∈ s) = m := ⟨_, rfl⟩
          have hlk : (Instr.lookup 74 (.map (some w.heap.size)) (.int .i64 E.num) false).run Tryz.prog w1 = .ok (.bool m) w1 := by
            rw [hS2.look hwf.out, hm]
          have hvl3 : Hid (V = (!m && Pl.vl (l.drop (k + 1)) (E.num :: s))) := Lib.hid (by rw [hvl2.out, ← hm]; rfl)
          clear hvl2 hm hv
          cases m with
          | true =>
            have HF : Hid (V = false) := Lib.hid (by rw [hvl3.out]; rfl)
            go_wp2
            go_ret
            exact ⟨by rw [HF.out]; rfl, hB2⟩
          | false =>
            have hvl4 : Hid (Pl.vl (l.drop (k + 1)) (E.num :: s) = V) := Lib.hid (by rw [hvl3.out]; rfl)
            obtain ⟨w4, hrun, hS5, hg⟩ := hS2.store (by unfold maxLen; omega) hwf.out
            have hB5 := hB2.grown hg hB2.size (fun k e => by cases e; exact Nat.le_refl _)
            clear hS2 hB2 hg bE1
            go_wp2
            go_roundw
            case rel => exact ⟨k + 1, _, by omega, by go_num, hS5, hvl4, hB5⟩
            case measure => simp [intOf]; omega
      · obtain rfl : k = l.length := by omega
        have HT : Hid (V = true) := Lib.hid (by rw [← hvl.out, Pl.vl_end])
        go_wp2
        go_ret
        exact ⟨by rw [HT.out]; rfl, hB⟩

set_option maxHeartbeats 400000 in
theorem isindex_b (i : Int) (A : Option Addr) (n c : Nat) (hn : n ≤ 1000) (v : Bool) (hv : decide (0 ≤ i ∧ i < n) = v) (w : World) :
    Calls Tryz.prog 59 #[.int .i64 i, .slice A n c] w fun e w' => e = .returned (.bool v) ∧ w' = w := by
  have HV : Hid (Pl.inB 0 i ((n : Int) - 1) = v) := Lib.hid (by rw [← hv, Bool.eq_iff_iff, Pl.inB_true, decide_eq_true_iff]; omega)
  clear hv
  go_enter Tryz.func59, Tryz.ntmps59
  go_wp2_with (go_at_call 56; refine (within_any _ _ _ _).mono ?_; rintro e w1 ⟨rfl, rfl⟩; rw [HV.out])
  go_ret
  exact ⟨rfl, rfl⟩

set_option maxHeartbeats 400000 in
theorem risindex_b (i : Int) (A : Option Addr) (n c : Nat) (v : Bool) (hv : decide (0 ≤ i ∧ i < n) = v) (w : World) :
    Calls Tryz.prog 54 #[.slice A n c, .int .i64 i] w fun e w' => e = .returned (.bool v) ∧ w' = w := by
  by_cases h1 : 0 ≤ i
  · have HV : Hid (v = decide (i < n)) := Lib.hid (by rw [← hv, Bool.eq_iff_iff, decide_eq_true_iff, decide_eq_true_iff]; omega)
    clear hv
    go_enter Tryz.func54, Tryz.ntmps54
    go_wp2
    go_ret
    exact ⟨by rw [HV.out]; rfl, rfl⟩
  · have HV : Hid (v = false) := Lib.hid (by rw [← hv, decide_eq_false_iff_not]; omega)
    clear hv
    go_enter Tryz.func54, Tryz.ntmps54
    go_wp2
    go_ret
    exact ⟨by rw [HV.out]; rfl, rfl⟩

/-- the numbers of the first k -/
def seenL (l : List Pl.Bt) (k : Nat) : List Int := ((l.take k).map Pl.Bt.num).reverse
theorem seenL_succ {l : List Pl.Bt} {k : Nat} (hk : k < l.length) : seenL l (k + 1) = (l.getD k Pl.zb).num :: seenL l k := by
  unfold seenL
  rw [List.take_add_one, List.getElem?_eq_getElem hk, List.getD_eq_getElem?_getD, List.getElem?_eq_getElem hk, List.map_append, List.reverse_append]
  rfl
theorem mem_seenL {l : List Pl.Bt} {k : Nat} {x : Int} (hk : k ≤ l.length) : x ∈ seenL l k ↔ ∃ j, j < k ∧ (l.getD j Pl.zb).num = x := by
  induction k with
  | zero => simp [seenL]
  | succ k ih =>
    rw [seenL_succ (by omega), List.mem_cons, ih (by omega)]
    constructor
    · rintro (rfl | ⟨j, h1, h2⟩)
      · exact ⟨k, by omega, rfl⟩
      · exact ⟨j, by omega, h2⟩
    · rintro ⟨j, h1, h2⟩
      rcases Nat.lt_succ_iff_lt_or_eq.1 h1 with h | rfl
      · exact .inr ⟨j, h, h2⟩
      · exact .inl h2.symm

set_option maxRecDepth 100000 in
set_option maxHeartbeats 8000000 in
theorem rvalid_any (A : Option Addr) (l : List Pl.Bt) (c : Nat) (w : World) (hI : Bts w A l) :
    Calls Tryz.prog 4 #[.slice A l.length c] w fun e w' => e = .returned (.bool (Pl.vs l)) ∧ Below w.heap.size w w' := by
  have HV : Hid (Pl.vs l = (decide (l.length ≤ 40) && Pl.vl l [])) := Lib.hid rfl
  generalize Pl.vs l = V at *
  have HI := Lib.hid hI
  clear hI
  go_enter Tryz.func4, Tryz.ntmps4
  by_cases hlen : (40 : Int) < (l.length : Int)
  · have HL : Hid (V = false) := Lib.hid (by rw [HV.out]; simp; omega)
    go_wp2
    go_ret
    exact ⟨by rw [HL.out]; rfl, Below.refl _ _⟩
  · have HL : Hid (Pl.vl (l.drop 0) (seenL l 0) = V) := Lib.hid (by rw [HV.out, List.drop_zero, decide_eq_true (by omega)]; rfl)
    have hlen' : l.length ≤ 40 := by omega
    clear HV
    go_wp2
    go_loopw [3, 4] (fun i _ wr => ∃ k : Nat, k ≤ l.length ∧ i = .int .i64 k ∧ Hid (Pl.vl (l.drop k) (seenL l k) = V) ∧ Below w.heap.size w wr) (fun i _ _ => l.length - (intOf i).toNat)
    case atStart => exact ⟨0, Nat.zero_le _, rfl, HL, Below.refl _ _⟩
    case round =>
      clear HL
      obtain ⟨k, hk, rfl, hvl, hB⟩ := hrel
      obtain ⟨wo, rfl⟩ : ∃ wo, wo = wr := ⟨_, rfl⟩
      by_cases hlt : k < l.length
      · obtain ⟨bz, oz, rfl, hbz, hcz⟩ : ∃ bb off, A = some ⟨bb, off, none⟩ ∧ bb < w.heap.size ∧ ∀ j, j < l.length → w.rangeAt bb (off + j * 7) (btA (l.getD j Pl.zb)).toList := by
          rcases HI.out with h | ⟨bb, off, he, hb, hc⟩
          · rw [h] at hlt; simp at hlt
          · exact ⟨bb, off, he, hb, hc⟩
        have hck := rangeAt_below (hcz k hlt) hbz hB
        have hvl2 := Lib.hid (hvl.out.symm.trans (Pl.vl_step hlt))
        have HCZ := Lib.hid hcz
        have HMEM := Lib.hid (fun x => mem_seenL (l := l) (k := k) (x := x) hk)
        have HNX : Hid (seenL l (k + 1) = (l.getD k Pl.zb).num :: seenL l k) := Lib.hid (seenL_succ hlt)
        clear hcz hvl
        generalize hE : l.getD k Pl.zb = E at hck hvl2 HNX
        have HE := Lib.hid hE
        clear hE
        obtain ⟨v, hv⟩ : ∃ v, Pl.vb E = v := ⟨_, rfl⟩
        rw [hv] at hvl2
        have HVV := Lib.hid hv
        clear hv
        go_wp2_with (refine ldm_bt hck rfl _ rfl rfl ?_)
        refine (rvbatch_b E v HVV.out _).mono ?_
        rintro e w1 ⟨rfl, hb1⟩
        have hB2 := hB.trans (hb1.mono hB.size)
        clear hb1 hB hck
        cases v with
        | false =>
          have HF : Hid (V = false) := Lib.hid (by rw [hvl2.out]; simp)
          clear hvl2
          go_wp2
          go_ret
          exact ⟨by rw [HF.out]; rfl, hB2⟩
        | true =>
          have hcE := rangeAt_below (HCZ.out k hlt) hbz hB2
          rw [HE.out] at hcE
          have hbz1 := Nat.lt_of_lt_of_le hbz hB2.size
          have HLT := Lib.hid hlt
          have hltI : (k : Int) < (l.length : Int) := by omega
          have hk0 : ¬ (k : Int) < 0 := by omega
          have QE : ∀ W', Below w1.heap.size w1 W' → W'.cell? ⟨bz, oz + k * 7, none⟩ = some (.int .i64 E.num) := fun W' hb => (rangeAt_below hcE hbz1 hb) 0 _ rfl
          have HQE := Lib.hid QE
          clear QE hcE
          go_wp2
          go_loopw [4] (fun i wr => ∃ j : Nat, j ≤ k ∧ i = .int .i64 j ∧ Hid (∀ j', j' < j → (l.getD j' Pl.zb).num ≠ E.num) ∧ Below w1.heap.size w1 wr) (fun i _ => k - (intOf i).toNat)
          case atStart => exact ⟨0, Nat.zero_le _, rfl, Lib.hid (fun j' h => absurd h (Nat.not_lt_zero _)), Below.refl _ _⟩
          case round =>
            obtain ⟨j, hj, rfl, hne, hBj⟩ := hrel
            obtain ⟨w2, rfl⟩ : ∃ w2, w2 = wr := ⟨_, rfl⟩
            by_cases hjk : j < k
            · have qF : ∀ s : Ext w2, s.w.cell? ⟨bz, oz + j * 7, none⟩ = some (.int .i64 (l.getD j Pl.zb).num) := fun s => (rangeAt_below (HCZ.out j (by omega)) hbz (hB2.trans ((hBj.trans (s.h.mono hBj.size)).mono hB2.size))) 0 _ rfl
              have qE : ∀ s : Ext w2, s.w.cell? ⟨bz, oz + k * 7, none⟩ = some (.int .i64 E.num) := fun s => HQE.out _ (hBj.trans (s.h.mono hBj.size))
              have HX := Lib.hid ((HMEM.out ((l.getD j Pl.zb).num)).2 ⟨j, hjk, rfl⟩)
              have HNJ : Hid ((l.getD j Pl.zb).num ≠ E.num → ∀ j', j' < j + 1 → (l.getD j' Pl.zb).num ≠ E.num) := Lib.hid (fun h j' hj' => by
                rcases Nat.lt_succ_iff_lt_or_eq.1 hj' with h' | rfl
                · exact hne.out j' h'
                · exact h)
              have hjI : (j : Int) < (l.length : Int) := by omega
              clear hne
              generalize l.getD j Pl.zb = F at *
              by_cases heq : F.num = E.num
              · have HF : Hid (V = false) := Lib.hid (by
                  have hm : E.num ∈ seenL l k := heq ▸ HX.out
                  rw [hvl2.out]
                  simp [hm])
                have hbeq : (F.num == E.num) = true := by simp [heq]
                clear hvl2 heq HNJ
                go_wp2
                refine wp_region_ext (by kernel_rfl) (by kernel_rfl) ?_
                repeat (go_big_quiet_step (fail))
                refine wpQuiet_nil ?_
                rintro _ ⟨s, rfl⟩
                go_wp2
                go_ret
                exact ⟨by rw [HF.out]; rfl, hB2.trans ((hBj.trans (s.h.mono hBj.size)).mono hB2.size)⟩
              · have hNJ := Lib.hid (HNJ.out heq)
                have hbeq : (F.num == E.num) = false := by simp [heq]
                clear HNJ heq
                go_wp2
                refine wp_region_ext (by kernel_rfl) (by kernel_rfl) ?_
                repeat (go_big_quiet_step (fail))
                refine wpQuiet_nil ?_
                rintro _ ⟨s, rfl⟩
                go_wp2
                go_roundw
                case rel => exact ⟨j + 1, by omega, by go_num, hNJ, hBj.trans (s.h.mono hBj.size)⟩
                case measure => simp [intOf]; omega
            · obtain rfl : j = k := by omega
              have hnot : Hid (Pl.vl (l.drop (j + 1)) (seenL l (j + 1)) = V) := Lib.hid (by
                have hn : ¬ E.num ∈ seenL l j := fun h => by
                  obtain ⟨j', h1, h2⟩ := (HMEM.out _).1 h
                  exact hne.out j' h1 h2
                rw [hvl2.out, HNX.out]
                simp [hn])
              go_wp2
              go_roundw
              case rel => exact ⟨j + 1, HLT.out, by go_num, hnot, hB2.trans (hBj.mono hB2.size)⟩
              case measure => have := HLT.out; simp [intOf]; omega
      · obtain rfl : k = l.length := by omega
        have HT : Hid (V = true) := Lib.hid (by rw [← hvl.out, Pl.vl_end])
        go_wp2
        go_ret
        exact ⟨by rw [HT.out]; rfl, hB⟩

end Go.Proofs.YtlfbfdhdkccaeaaGreat

