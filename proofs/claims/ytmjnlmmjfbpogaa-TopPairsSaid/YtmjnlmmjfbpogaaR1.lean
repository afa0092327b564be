/- The document's tests of temples, pairs of temples, tolerances, lists, indexes. -/
import Derived.Test.YtmjnlmmjfbpogaaV2
namespace Go.Proofs.Ytmjnlmmjfbpogaa
open Go.RowKit Go.Shelf

set_option maxRecDepth 100000 in
set_option maxHeartbeats 4000000 in
theorem rvtemple_b (t : Pl.Tm) (v : Bool) (hv : Pl.vt t = v) (w : World) :
    Calls Try.prog 53 #[.agg (tmA t)] w fun e w' => e = .returned (.bool v) ∧ Below w.heap.size w w' := by
  have hB := (Below.refl w.heap.size w).alloc (Nat.le_refl _) (.cells (tmA t) 24)
  have bT := Blk.new w 24 (tmA t)
  have q0 := bT.cell 0
  have q1 := bT.cell 1
  have q2 := bT.cell 2
  have q3 := bT.cell 3
  clear bT
  have HV : Hid (v = ((decide (1 ≤ t.num) && decide (t.num ≤ 1000000000)) && (decide (t.side = 1) || decide (t.side = 2)) && (decide (1 ≤ t.len) && decide (t.len ≤ 2000)) && (decide (1 ≤ t.col) && decide (t.col ≤ 9)))) := Lib.hid hv.symm
  clear hv
  by_cases a0 : 1 ≤ t.num
  rotate_left
  · have HF : Hid (v = false) := Lib.hid (by rw [HV.out]; simp [a0])
    clear HV
    go_enter Try.func53, Try.ntmps53
    go_wp2
    go_ret
    exact ⟨by rw [HF.out]; rfl, hB⟩
  by_cases a1 : t.num ≤ 1000000000
  rotate_left
  · have HF : Hid (v = false) := Lib.hid (by rw [HV.out]; simp [a0, a1])
    clear HV
    go_enter Try.func53, Try.ntmps53
    go_wp2
    go_ret
    exact ⟨by rw [HF.out]; rfl, hB⟩
  by_cases s1 : t.side = 1
  · have e1 : (t.side == 1) = true := by simp [s1]
    by_cases a2 : 1 ≤ t.len
    rotate_left
    · have HF : Hid (v = false) := Lib.hid (by rw [HV.out]; simp [a0, a1, s1, a2])
      clear HV
      go_enter Try.func53, Try.ntmps53
      go_wp2
      go_ret
      exact ⟨by rw [HF.out]; rfl, hB⟩
    by_cases a3 : t.len ≤ 2000
    rotate_left
    · have HF : Hid (v = false) := Lib.hid (by rw [HV.out]; simp [a0, a1, s1, a2, a3])
      clear HV
      go_enter Try.func53, Try.ntmps53
      go_wp2
      go_ret
      exact ⟨by rw [HF.out]; rfl, hB⟩
    by_cases a4 : 1 ≤ t.col
    rotate_left
    · have HF : Hid (v = false) := Lib.hid (by rw [HV.out]; simp [a0, a1, s1, a2, a3, a4])
      clear HV
      go_enter Try.func53, Try.ntmps53
      go_wp2
      go_ret
      exact ⟨by rw [HF.out]; rfl, hB⟩
    by_cases a5 : t.col ≤ 9
    rotate_left
    · have HF : Hid (v = false) := Lib.hid (by rw [HV.out]; simp [a0, a1, s1, a2, a3, a4, a5])
      clear HV
      go_enter Try.func53, Try.ntmps53
      go_wp2
      go_ret
      exact ⟨by rw [HF.out]; rfl, hB⟩
    have HF : Hid (v = true) := Lib.hid (by rw [HV.out]; simp [a0, a1, s1, a2, a3, a4, a5])
    clear HV
    go_enter Try.func53, Try.ntmps53
    go_wp2
    go_ret
    exact ⟨by rw [HF.out]; rfl, hB⟩
  have e1 : (t.side == 1) = false := by simp [s1]
  by_cases s2 : t.side = 2
  · have e2 : (t.side == 2) = true := by simp [s2]
    by_cases a2 : 1 ≤ t.len
    rotate_left
    · have HF : Hid (v = false) := Lib.hid (by rw [HV.out]; simp [a0, a1, s2, a2])
      clear HV
      go_enter Try.func53, Try.ntmps53
      go_wp2
      go_ret
      exact ⟨by rw [HF.out]; rfl, hB⟩
    by_cases a3 : t.len ≤ 2000
    rotate_left
    · have HF : Hid (v = false) := Lib.hid (by rw [HV.out]; simp [a0, a1, s2, a2, a3])
      clear HV
      go_enter Try.func53, Try.ntmps53
      go_wp2
      go_ret
      exact ⟨by rw [HF.out]; rfl, hB⟩
    by_cases a4 : 1 ≤ t.col
    rotate_left
    · have HF : Hid (v = false) := Lib.hid (by rw [HV.out]; simp [a0, a1, s2, a2, a3, a4])
      clear HV
      go_enter Try.func53, Try.ntmps53
      go_wp2
      go_ret
      exact ⟨by rw [HF.out]; rfl, hB⟩
    by_cases a5 : t.col ≤ 9
    rotate_left
    · have HF : Hid (v = false) := Lib.hid (by rw [HV.out]; simp [a0, a1, s2, a2, a3, a4, a5])
      clear HV
      go_enter Try.func53, Try.ntmps53
      go_wp2
      go_ret
      exact ⟨by rw [HF.out]; rfl, hB⟩
    have HF : Hid (v = true) := Lib.hid (by rw [HV.out]; simp [a0, a1, s2, a2, a3, a4, a5])
    clear HV
    go_enter Try.func53, Try.ntmps53
    go_wp2
    go_ret
    exact ⟨by rw [HF.out]; rfl, hB⟩
  · have e2 : (t.side == 2) = false := by simp [s2]
    have HF : Hid (v = false) := Lib.hid (by rw [HV.out]; simp [s1, s2])
    clear HV
    go_enter Try.func53, Try.ntmps53
    go_wp2
    go_ret
    exact ⟨by rw [HF.out]; rfl, hB⟩

theorem apart_can {a b : Pl.Tm} {tol : Int} : decide (max (a.len - b.len) (b.len - a.len) ≤ tol) = Pl.inB (-tol) (a.len - b.len) tol := by
  rw [Bool.eq_iff_iff, Pl.inB_true, decide_eq_true_iff]; omega

set_option maxRecDepth 100000 in
set_option maxHeartbeats 1000000 in
theorem rapart_b (a b : Pl.Tm) (k1 : IntKind.i64.wrap (a.len - b.len) = a.len - b.len) (k2 : IntKind.i64.wrap (b.len - a.len) = b.len - a.len) (v : Int) (hv : max (a.len - b.len) (b.len - a.len) = v) (w : World) :
    Calls Try.prog 56 #[.agg (tmA a), .agg (tmA b)] w fun e w' => e = .returned (.int .i64 v) ∧ Below w.heap.size w w' := by
  have hB := ((Below.refl w.heap.size w).alloc (Nat.le_refl _) (.cells (tmA a) 24)).alloc (by simp) (.cells (tmA b) 24)
  have bA := (Blk.new w 24 (tmA a)).alloc (.cells (tmA b) 24)
  have bB := Blk.new (w.alloc (.cells (tmA a) 24)) 24 (tmA b)
  simp only [World.size_alloc] at bB
  have q2 := bA.cell 2
  have r2 := bB.cell 2
  clear bA bB
  by_cases hm : b.len - a.len > a.len - b.len
  · have HV : Hid (v = b.len - a.len) := Lib.hid (by rw [← hv]; omega)
    clear hv
    go_enter Try.func56, Try.ntmps56
    go_wp2
    go_ret
    exact ⟨by rw [HV.out]; rfl, hB⟩
  · have HV : Hid (v = a.len - b.len) := Lib.hid (by rw [← hv]; omega)
    clear hv
    go_enter Try.func56, Try.ntmps56
    go_wp2
    go_ret
    exact ⟨by rw [HV.out]; rfl, hB⟩

set_option maxRecDepth 100000 in
set_option maxHeartbeats 1000000 in
theorem rcan_b (a b : Pl.Tm) (tol : Int) (v : Bool) (hv : Pl.can a b tol = v) (k1 : IntKind.i64.wrap (a.len - b.len) = a.len - b.len) (k2 : IntKind.i64.wrap (b.len - a.len) = b.len - a.len) (w : World) :
    Calls Try.prog 51 #[.agg (tmA a), .agg (tmA b), .int .i64 tol] w fun e w' => e = .returned (.bool v) ∧ Below w.heap.size w w' := by
  unfold Pl.can at hv
  rw [← apart_can] at hv
  have hB := ((Below.refl w.heap.size w).alloc (Nat.le_refl _) (.cells (tmA a) 24)).alloc (by simp) (.cells (tmA b) 24)
  have bA := (Blk.new w 24 (tmA a)).alloc (.cells (tmA b) 24)
  have bB := Blk.new (w.alloc (.cells (tmA a) 24)) 24 (tmA b)
  simp only [World.size_alloc] at bB
  have hra := bA.range
  have hrb := bB.range
  have q1 := bA.cell 1
  have q3 := bA.cell 3
  have r1 := bB.cell 1
  have r3 := bB.cell 3
  obtain ⟨x1, h1⟩ : ∃ x, decide (a.side ≠ b.side) = x := ⟨_, rfl⟩
  obtain ⟨x2, h2⟩ : ∃ x, decide (a.col = b.col) = x := ⟨_, rfl⟩
  obtain ⟨d, hd⟩ : ∃ d, max (a.len - b.len) (b.len - a.len) = d := ⟨_, rfl⟩
  have E1 : (a.side != b.side) = x1 := neB.trans h1
  have E2 : (a.col == b.col) = x2 := eqB.trans h2
  rw [h1, h2, hd] at hv
  have HD := Lib.hid (rapart_b a b k1 k2 d hd)
  have HV := Lib.hid hv.symm
  clear hv h1 h2 hd bA bB k1 k2
  cases x1
  · go_enter Try.func51, Try.ntmps51
    go_wp2_with fail
    go_ret
    exact ⟨by rw [HV.out]; rfl, hB⟩
  cases x2
  · go_enter Try.func51, Try.ntmps51
    go_wp2_with fail
    go_ret
    exact ⟨by rw [HV.out]; rfl, hB⟩
  · go_enter Try.func51, Try.ntmps51
    go_wp2_with (first | refine ldm_tm hra rfl _ rfl rfl ?_ | refine ldm_tm hrb rfl _ rfl rfl ?_)
    refine (HD.out _).mono ?_
    rintro e w1 ⟨rfl, hb1⟩
    go_wp2
    go_ret
    exact ⟨by rw [HV.out]; rfl, hB.trans (hb1.mono hB.size)⟩

set_option maxHeartbeats 400000 in
theorem rtol_b (tol : Int) (v : Bool) (hv : Pl.inB 0 tol 1000 = v) (w : World) :
    Calls Try.prog 50 #[.int .i64 tol] w fun e w' => e = .returned (.bool v) ∧ w' = w := by
  by_cases h1 : 0 ≤ tol
  · have HV : Hid (v = decide (tol ≤ 1000)) := Lib.hid (by rw [← hv]; unfold Pl.inB; rw [decide_eq_true h1]; rfl)
    clear hv
    go_enter Try.func50, Try.ntmps50
    go_wp2
    go_ret
    exact ⟨by rw [HV.out]; rfl, rfl⟩
  · have HV : Hid (v = false) := Lib.hid (by rw [← hv]; unfold Pl.inB; rw [decide_eq_false h1]; rfl)
    clear hv
    go_enter Try.func50, Try.ntmps50
    go_wp2
    go_ret
    exact ⟨by rw [HV.out]; rfl, rfl⟩

set_option maxHeartbeats 400000 in
theorem risindex_b (i : Int) (A : Option Addr) (n c : Nat) (v : Bool) (hv : decide (0 ≤ i ∧ i < n) = v) (w : World) :
    Calls Try.prog 63 #[.slice A n c, .int .i64 i] w fun e w' => e = .returned (.bool v) ∧ w' = w := by
  by_cases h1 : 0 ≤ i
  · have HV : Hid (v = decide (i < n)) := Lib.hid (by rw [← hv, Bool.eq_iff_iff, decide_eq_true_iff, decide_eq_true_iff]; omega)
    clear hv
    go_enter Try.func63, Try.ntmps63
    go_wp2
    go_ret
    exact ⟨by rw [HV.out]; rfl, rfl⟩
  · have HV : Hid (v = false) := Lib.hid (by rw [← hv, decide_eq_false_iff_not]; omega)
    clear hv
    go_enter Try.func63, Try.ntmps63
    go_wp2
    go_ret
    exact ⟨by rw [HV.out]; rfl, rfl⟩

/-- the numbers of the first k -/
def seenL (l : List Pl.Tm) (k : Nat) : List Int := ((l.take k).map Pl.Tm.num).reverse
theorem seenL_succ {l : List Pl.Tm} {k : Nat} (hk : k < l.length) : seenL l (k + 1) = (l.getD k Pl.zt).num :: seenL l k := by
  unfold seenL
  rw [List.take_add_one, List.getElem?_eq_getElem hk, List.getD_eq_getElem?_getD, List.getElem?_eq_getElem hk, List.map_append, List.reverse_append]
  rfl
theorem mem_seenL {l : List Pl.Tm} {k : Nat} {x : Int} (hk : k ≤ l.length) : x ∈ seenL l k ↔ ∃ j, j < k ∧ (l.getD j Pl.zt).num = x := by
  induction k with
  | zero => simp [seenL]
  | succ k ih =>
    rw [seenL_succ (by omega), List.mem_cons, ih (by omega)]
    constructor
    · rintro (rfl | ⟨j, h1, h2⟩)
      · exact ⟨k, by omega, rfl⟩
      · exact ⟨j, by omega, h2⟩
    · rintro ⟨j, h1, h2⟩
      rcases Nat.lt_succ_iff_lt_or_eq.1 h1 with h | rfl
      · exact .inr ⟨j, h, h2⟩
      · exact .inl h2.symm

set_option maxRecDepth 100000 in
set_option maxHeartbeats 8000000 in
theorem rvalid_any (A : Option Addr) (l : List Pl.Tm) (c : Nat) (w : World) (hI : Tms w A l) :
    Calls Try.prog 19 #[.slice A l.length c] w fun e w' => e = .returned (.bool (Pl.vs l)) ∧ Below w.heap.size w w' := by
  have HV : Hid (Pl.vs l = (decide (l.length ≤ 60) && Pl.vl l [])) := Lib.hid rfl
  generalize Pl.vs l = V at *
  have HI := Lib.hid hI
  clear hI
  go_enter Try.func19, Try.ntmps19
  by_cases hlen : (60 : Int) < (l.length : Int)
  · have HL : Hid (V = false) := Lib.hid (by rw [HV.out]; simp; omega)
    go_wp2
    go_ret
    exact ⟨by rw [HL.out]; rfl, Below.refl _ _⟩
  · have HL : Hid (Pl.vl (l.drop 0) (seenL l 0) = V) := Lib.hid (by rw [HV.out, List.drop_zero, decide_eq_true (by omega)]; rfl)
    have hlen' : l.length ≤ 60 := by omega
    clear HV
    go_wp2
    go_loopw [3, 4] (fun i _ wr => ∃ k : Nat, k ≤ l.length ∧ i = .int .i64 k ∧ Hid (Pl.vl (l.drop k) (seenL l k) = V) ∧ Below w.heap.size w wr) (fun i _ _ => l.length - (intOf i).toNat)
    case atStart => exact ⟨0, Nat.zero_le _, rfl, HL, Below.refl _ _⟩
    case round =>
      clear HL
      obtain ⟨k, hk, rfl, hvl, hB⟩ := hrel
      obtain ⟨wo, rfl⟩ : ∃ wo, wo = wr := ⟨_, rfl⟩
      by_cases hlt : k < l.length
      · obtain ⟨bz, oz, rfl, hbz, hcz⟩ : ∃ bb off, A = some ⟨bb, off, none⟩ ∧ bb < w.heap.size ∧ ∀ j, j < l.length → w.rangeAt bb (off + j * 4) (tmA (l.getD j Pl.zt)).toList := by
          rcases HI.out with h | ⟨bb, off, he, hb, hc⟩
          · rw [h] at hlt; simp at hlt
          · exact ⟨bb, off, he, hb, hc⟩
        have hck := rangeAt_below (hcz k hlt) hbz hB
        have hvl2 := Lib.hid (hvl.out.symm.trans (Pl.vl_step hlt))
        have HCZ := Lib.hid hcz
        have HMEM := Lib.hid (fun x => mem_seenL (l := l) (k := k) (x := x) hk)
        have HNX : Hid (seenL l (k + 1) = (l.getD k Pl.zt).num :: seenL l k) := Lib.hid (seenL_succ hlt)
        clear hcz hvl
        generalize hE : l.getD k Pl.zt = E at hck hvl2 HNX
        have HE := Lib.hid hE
        clear hE
        obtain ⟨v, hv⟩ : ∃ v, Pl.vt E = v := ⟨_, rfl⟩
        rw [hv] at hvl2
        have HVV := Lib.hid hv
        clear hv
        go_wp2_with (refine ldm_tm hck rfl _ rfl rfl ?_)
        refine (rvtemple_b E v HVV.out _).mono ?_
        rintro e w1 ⟨rfl, hb1⟩
        have hB2 := hB.trans (hb1.mono hB.size)
        clear hb1 hB hck
        cases v with
        | false =>
          have HF : Hid (V = false) := Lib.hid (by rw [hvl2.out]; simp)
          clear hvl2
          go_wp2
          go_ret
          exact ⟨by rw [HF.out]; rfl, hB2⟩
        | true =>
          have hcE := rangeAt_below (HCZ.out k hlt) hbz hB2
          rw [HE.out] at hcE
          have hbz1 := Nat.lt_of_lt_of_le hbz hB2.size
          have HLT := Lib.hid hlt
          have hltI : (k : Int) < (l.length : Int) := by omega
          have hk0 : ¬ (k : Int) < 0 := by omega
          have QE : ∀ W', Below w1.heap.size w1 W' → W'.cell? ⟨bz, oz + k * 4, none⟩ = some (.int .i64 E.num) := fun W' hb => (rangeAt_below hcE hbz1 hb) 0 _ rfl
          have HQE := Lib.hid QE
          clear QE hcE
          go_wp2
          go_loopw [4] (fun i wr => ∃ j : Nat, j ≤ k ∧ i = .int .i64 j ∧ Hid (∀ j', j' < j → (l.getD j' Pl.zt).num ≠ E.num) ∧ Below w1.heap.size w1 wr) (fun i _ => k - (intOf i).toNat)
          case atStart => exact ⟨0, Nat.zero_le _, rfl, Lib.hid (fun j' h => absurd h (Nat.not_lt_zero _)), Below.refl _ _⟩
          case round =>
            obtain ⟨j, hj, rfl, hne, hBj⟩ := hrel
            obtain ⟨w2, rfl⟩ : ∃ w2, w2 = wr := ⟨_, rfl⟩
            by_cases hjk : j < k
            · have qF : ∀ s : Ext w2, s.w.cell? ⟨bz, oz + j * 4, none⟩ = some (.int .i64 (l.getD j Pl.zt).num) := fun s => (rangeAt_below (HCZ.out j (by omega)) hbz (hB2.trans ((hBj.trans (s.h.mono hBj.size)).mono hB2.size))) 0 _ rfl
              have qE : ∀ s : Ext w2, s.w.cell? ⟨bz, oz + k * 4, none⟩ = some (.int .i64 E.num) := fun s => HQE.out _ (hBj.trans (s.h.mono hBj.size))
              have HX := Lib.hid ((HMEM.out ((l.getD j Pl.zt).num)).2 ⟨j, hjk, rfl⟩)
              have HNJ : Hid ((l.getD j Pl.zt).num ≠ E.num → ∀ j', j' < j + 1 → (l.getD j' Pl.zt).num ≠ E.num) := Lib.hid (fun h j' hj' => by
                rcases Nat.lt_succ_iff_lt_or_eq.1 hj' with h' | rfl
                · exact hne.out j' h'
                · exact h)
              have hjI : (j : Int) < (l.length : Int) := by omega
              clear hne
              generalize l.getD j Pl.zt = F at *
              by_cases heq : F.num = E.num
              · have HF : Hid (V = false) := Lib.hid (by
                  have hm : E.num ∈ seenL l k := heq ▸ HX.out
                  rw [hvl2.out]
                  simp [hm])
                have hbeq : (F.num == E.num) = true := by simp [heq]
                clear hvl2 heq HNJ
                go_wp2
                refine wp_region_ext (by kernel_rfl) (by kernel_rfl) ?_
                repeat (go_big_quiet_step (fail))
                refine wpQuiet_nil ?_
                rintro _ ⟨s, rfl⟩
                go_wp2
                go_ret
                exact ⟨by rw [HF.out]; rfl, hB2.trans ((hBj.trans (s.h.mono hBj.size)).mono hB2.size)⟩
              · have hNJ := Lib.hid (HNJ.out heq)
                have hbeq : (F.num == E.num) = false := by simp [heq]
                clear HNJ heq
                go_wp2
                refine wp_region_ext (by kernel_rfl) (by kernel_rfl) ?_
                repeat (go_big_quiet_step (fail))
                refine wpQuiet_nil ?_
                rintro _ ⟨s, rfl⟩
                go_wp2
                go_roundw
                case rel => exact ⟨j + 1, by omega, by go_num, hNJ, hBj.trans (s.h.mono hBj.size)⟩
                case measure => simp [intOf]; omega
            · obtain rfl : j = k := by omega
              have hnot : Hid (Pl.vl (l.drop (j + 1)) (seenL l (j + 1)) = V) := Lib.hid (by
                have hn : ¬ E.num ∈ seenL l j := fun h => by
                  obtain ⟨j', h1, h2⟩ := (HMEM.out _).1 h
                  exact hne.out j' h1 h2
                rw [hvl2.out, HNX.out]
                simp [hn])
              go_wp2
              go_roundw
              case rel => exact ⟨j + 1, HLT.out, by go_num, hnot, hB2.trans (hBj.mono hB2.size)⟩
              case measure => have := HLT.out; simp [intOf]; omega
      · obtain rfl : k = l.length := by omega
        have HT : Hid (V = true) := Lib.hid (by rw [← hvl.out, Pl.vl_end])
        go_wp2
        go_ret
        exact ⟨by rw [HT.out]; rfl, hB⟩

set_option maxRecDepth 100000 in
set_option maxHeartbeats 1000000 in
theorem asked_b (A : Option Addr) (l : List Pl.Tm) (c : Nat) (tol : Int) (v : Int) (hv : Pl.ck l tol = v) (w : World) (hI : Tms w A l) :
    Calls Try.prog 58 #[.slice A l.length c, .int .i64 tol] w fun e w' => e = .returned (.int .i64 v) ∧ Below w.heap.size w w' := by
  unfold Pl.ck at hv
  have HC := Lib.hid (rvalid_any A l c w hI)
  obtain ⟨x2, h2⟩ : ∃ x, Pl.inB 0 tol 1000 = x := ⟨_, rfl⟩
  have H2 := Lib.hid h2
  rw [h2] at hv
  have HV := Lib.hid hv.symm
  clear hv h2 hI
  generalize Pl.vs l = x1 at *
  cases x1 <;> cases x2 <;>
  (go_enter Try.func58, Try.ntmps58
   go_wp2_with fail
   refine HC.out.mono ?_
   rintro e w1 ⟨rfl, hb⟩
   go_wp2_with (go_at_call 50; refine (rtol_b _ _ H2.out _).mono ?_; rintro e w1 ⟨rfl, rfl⟩)
   go_ret
   exact ⟨by rw [HV.out]; rfl, hb⟩)
end Go.Proofs.Ytmjnlmmjfbpogaa
