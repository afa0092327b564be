/- Rows of the document. -/
import Derived.Test.YtlfbfdhdkccaeaaR3
import Derived.Test.YtlfbfdhdkccaeaaP14
import Derived.RegionTactic
import Derived.ChangeAlike
namespace Go.Proofs.Ytlfbfdhdkccaeaa
open Go.RowKit Go.Shelf Go.Sort

/-- one more list, of one element, in a block of its own -/
theorem Rws.pushOne {to ti : TypeId} {α : Type} {enc : α → List Value} {k : Nat} {W W1 : World} {B : Nat} {v v' : Value} {f : Nat → Value} {rows : List (List α)} (h : Rws to ti enc k W B v f rows) {n : Nat} (hn : rows.length = n) {u : Value} {x : α} {g : Nat} (hu : u.ownBlock = some g) (hgB : W.heap.size ≤ g)
    (ho : W1.ownsRow B to 1 v' (n + 1) ((List.range n).map f ++ [u])) (hx : W1.ownsRow B ti k u 1 (enc x)) (hg : W.grownBy W1 v.ownBlock) (hl : v'.ownBlock = v.ownBlock ∨ ∃ g', v'.ownBlock = some g' ∧ W.heap.size ≤ g' ∧ g' ≠ g) :
    Rws to ti enc k W1 B v' (fun j => if j = n then u else f j) (rows ++ [[x]]) := by
  subst hn
  have hlen : (rows ++ [[x]]).length = rows.length + 1 := by simp
  have hfg : ∀ i, i < rows.length → (f i).ownBlock = none ∨ (f i).ownBlock ≠ some g := fun i hi => by
    cases hb : (f i).ownBlock with
    | none => exact .inl rfl
    | some s => exact .inr (fun e => by cases e; have := ((h.row i hi).lt _ hb).2; omega)
  refine ⟨?_, fun j hj => ?_, fun i j hi hj hne => ?_, fun j hj => ?_⟩
  · rw [hlen, List.range_succ, List.map_append]
    have e : (List.range rows.length).map (fun j => if j = rows.length then u else f j) = (List.range rows.length).map f := List.map_congr_left fun j hj => if_neg (by have := List.mem_range.1 hj; omega)
    rw [e]
    simpa using ho
  · rw [hlen] at hj
    by_cases e : j = rows.length
    · subst e
      simp only [if_true]
      rw [List.getD_eq_getElem?_getD, List.getElem?_append_right (Nat.le_refl _), Nat.sub_self]
      show W1.ownsRow B ti k u 1 (flt enc [x])
      rw [flt_one]; exact hx
    · simp only [if_neg e]
      rw [List.getD_eq_getElem?_getD, List.getElem?_append_left (by omega), ← List.getD_eq_getElem?_getD]
      exact (h.row j (by omega)).kept hg (h.far j (by omega))
  · rw [hlen] at hi hj
    by_cases e : i = rows.length
    · have e2 : ¬ j = rows.length := by omega
      simp only [if_pos e, if_neg e2]
      rw [hu]
      rcases hfg j (by omega) with c | c
      · exact .inr (by rw [c]; simp)
      · exact .inr (fun e3 => c e3.symm)
    · simp only [if_neg e]
      by_cases e2 : j = rows.length
      · simp only [if_pos e2]
        rw [hu]; exact hfg i (by omega)
      · simp only [if_neg e2]
        exact h.apart i j (by omega) (by omega) hne
  · rw [hlen] at hj
    by_cases e : j = rows.length
    · simp only [if_pos e]
      rw [hu]
      refine .inr (fun e2 => ?_)
      rcases hl with hl | ⟨g', hl, _, h3⟩
      · rw [hl] at e2
        have := (h.own.lt g e2.symm).2
        omega
      · rw [hl] at e2; cases e2; exact h3 rfl
    · simp only [if_neg e]
      rcases hl with hl | ⟨g', hl, h2, _⟩
      · rw [hl]; exact h.far j (by omega)
      · cases hb : (f j).ownBlock with
        | none => exact .inl rfl
        | some s =>
          refine .inr ?_
          rw [hl]
          intro e2
          cases e2
          have := ((h.row j (by omega)).lt _ hb).2
          omega

/-- the end of a row -/
theorem rr_end {w : World} {rows : List (List Nat)} {bb ob : Nat} (hbb : bb < w.heap.size) (hcb : ∀ j, j < rows.length → ∃ A' c, w.cell? ⟨bb, ob + j, none⟩ = some (.slice A' (rows.getD j []).length c) ∧ Rows irc 1 w A' (rows.getD j []) ∧ (rows.getD j []).length ≤ c ∧ c ≤ maxLen)
    {W : World} (hB : Below w.heap.size w W) {j : Nat} (hj : j < rows.length) (h0 : 0 < (rows.getD j []).length) :
    ∃ ba oa m c1, ∃ L : Nat, L = m + 1 ∧ W.cell? ⟨bb, ob + j, none⟩ = some (.slice (some ⟨ba, oa, none⟩) L c1) ∧ ba < W.heap.size ∧ bb < W.heap.size ∧ W.cell? ⟨ba, oa + m, none⟩ = some (.int .i64 (Pl.lst (rows.getD j []) : Nat)) ∧ m + 1 = (rows.getD j []).length := by
  obtain ⟨A1, c1, p0, ra, _⟩ := hcb j hj
  obtain ⟨ba, oa, rfl, hba, hca⟩ := ra.open h0
  obtain ⟨m, hm⟩ : ∃ m, (rows.getD j []).length = m + 1 := ⟨(rows.getD j []).length - 1, by omega⟩
  have q1 := row_cell (mk := fun x : Nat => Value.int .i64 (x : Int)) hba hca hB (i := m) (by omega)
  have hl : (rows.getD j [])[m]'(by omega) = Pl.lst (rows.getD j []) := by
    unfold Pl.lst
    rw [List.getLast?_eq_getElem?, List.getElem?_eq_getElem (by omega)]
    show _ = (rows.getD j [])[(rows.getD j []).length - 1]
    congr 1; omega
  rw [hl] at q1
  rw [hm] at p0
  exact ⟨ba, oa, m, c1, m + 1, rfl, (hB.cell (p := ⟨bb, ob + j, none⟩) hbb).trans p0, Nat.lt_of_lt_of_le hba hB.size, Nat.lt_of_lt_of_le hbb hB.size, q1, hm.symm⟩

theorem grownBy_set1 (w : World) (b i : Nat) (v : Value) : w.grownBy (w.setCell ⟨b, i, none⟩ v) (some b) :=
  ⟨rfl, rfl, rfl, by simp, fun k _ hk => Below.heap_setCell w ⟨b, i, none⟩ v k (fun e => hk (by rw [e]))⟩
theorem own_off {W : World} {B g : Nat} {v : Value} (h : ∀ s, v.ownBlock = some s → B ≤ s ∧ s < W.heap.size) (hg : g < B) : v.ownBlock = none ∨ v.ownBlock ≠ some g := by
  cases e : v.ownBlock with
  | none => exact .inl rfl
  | some s => exact .inr (fun e2 => by cases e2; have := (h _ e).1; omega)

theorem grownBy_allocs {w w1 w9 : World} {r : Option Nat} (h : Below w.heap.size w w1) (hg : w1.grownBy w9 r) : w.grownBy w9 r :=
  ⟨hg.os.trans h.os, hg.tape.trans h.tape, hg.output.trans h.output, Nat.le_trans h.size hg.size, fun k hk hr => (hg.block k (Nat.lt_of_lt_of_le hk h.size) hr).trans (h.block k hk)⟩

set_option maxRecDepth 100000 in
set_option maxHeartbeats 16000000 in
theorem rRows_any (A : Option Addr) (l : List Pl.Bt) (c n : Nat) (hn : l.length = n) (w : World) (hI : Bts w A l) :
    Calls Try.prog 25 #[.slice A n c] w fun e w' => ∃ v f, e = .returned (.tuple #[v, .int .i64 (Pl.E l)]) ∧ RwI w' w.heap.size v f (Pl.Rs l) ∧ Below w.heap.size w w' := by
  have HC := Lib.hid (rvalid_any A l c w hI)
  rw [hn] at HC
  obtain ⟨x, hx⟩ : ∃ x, Pl.vs l = x := ⟨_, rfl⟩
  rw [hx] at HC
  cases x
  · rw [Pl.E_no hx, Pl.Rs_no hx]
    clear hI hn hx
    go_enter Try.func25, Try.ntmps25
    go_wp2_with fail
    refine HC.out.mono ?_
    rintro e w1 ⟨rfl, hb1⟩
    go_wp2
    go_ret2
    exact ⟨_, fun _ => .slice none 0 0, rfl, Rws.nil _ _ _, hb1⟩
  have hok := Pl.ok_of hx
  have hn4 : n ≤ 40 := hn ▸ hok.len
  rw [Pl.E_ok hx, Pl.Rs_ok hx]
  have HI := Lib.hid hI
  have HN := Lib.hid hn
  have HVB : Hid (∀ i, i < n → 0 ≤ (Pl.at' l i).grain) := Lib.hid (fun i hi => (hok.vb i (by omega)).g1)
  have HEND : Hid (∀ k b, k < n → Pl.Lst' l k n b → b = Pl.nx l k) := Lib.hid (fun k b hk h => by rw [← hn] at h hk; exact Pl.lst_end hok hk h)
  have HNX : Hid (∀ k, k < n → Pl.nx l k < n ∧ Pl.nx l k ∉ (Pl.ord l).take k) := Lib.hid (fun k hk => ⟨by rw [← hn]; exact Pl.nx_lt (by omega), Pl.nx_newT (by omega)⟩)
  have HMS : Hid (∀ k, k < n → ∀ q, q ∈ (Pl.ord l).take (k + 1) ↔ q ∈ (Pl.ord l).take k ∨ q = Pl.nx l k) := Lib.hid (fun k hk q => Pl.mem_take_succ (by omega) q)
  have HRF := Lib.hid (fun k (hk : k ≤ n) j hj => Pl.row_facts hok (k := k) (by omega) (j := j) hj)
  have HRL := Lib.hid (fun k => Pl.gr_len (l := l) k)
  have HRR : Hid (Pl.R l = Pl.gr l n) := Lib.hid (by rw [← hn]; rfl)
  have HLT : Hid (∀ i j, Pl.Low (Pl.at' l i) (Pl.at' l j) → ∀ q, Pl.Low (Pl.at' l j) (Pl.at' l q) → Pl.Low (Pl.at' l i) (Pl.at' l q)) := Lib.hid (fun i j h1 q h2 => Pl.low_trans h1 h2)
  have HTOT : Hid (∀ i j, i < n → j < n → ¬ Pl.Low (Pl.at' l i) (Pl.at' l j) → i = j ∨ Pl.Low (Pl.at' l j) (Pl.at' l i)) := Lib.hid (fun i j hi hj h => by
    by_cases e : (Pl.at' l i).num = (Pl.at' l j).num
    · exact .inl (hok.num _ _ e)
    · rcases Pl.low_total _ _ e with k | k
      · exact absurd k h
      · exact .inr k)
  clear hI hn hx hok
  obtain ⟨i4, hi4, hz4, hn4', hy4⟩ := info_parts info4f
  obtain ⟨i3, hi3, hz3, hn3, hy3⟩ := info_parts info3
  obtain ⟨i42, hi42, hz42, hn42, hy42⟩ := info_parts info42
  go_enter Try.func25, Try.ntmps25
  go_wp2_with fail
  refine HC.out.mono ?_
  rintro e w1 ⟨rfl, hb1⟩
  have hmk := run_make w1 74 4 i4 (.bool false) Try.underlying74 hi4 hz4 .i64 .i64 (n : Int) (n : Int) (by omega) (by omega) (by rw [hy4]; omega) (by omega)
  rw [Int.toNat_natCast, hn4', Nat.mul_one] at hmk
  have hst : StB (w1.alloc (.cells (madeCells #[.bool false] n) 4)) w1.heap.size n (fun _ => false) := StF.new w1 n 4 Value.bool false
  have hB3 := hb1.alloc hb1.size (.cells (madeCells #[.bool false] n) 4)
  have hsz3 : (w1.alloc (.cells (madeCells #[.bool false] n) 4)).heap.size = w1.heap.size + 1 := by simp
  change Sem.run _ _ _ = Result.ok _ (w1.alloc (.cells (madeCells #[.bool false] n) 4)) at hmk
  have hgb : w.heap.size ≤ w1.heap.size := hb1.size
  generalize w1.alloc (.cells (madeCells #[.bool false] n) 4) = w3 at *
  obtain ⟨g, hg⟩ : ∃ g, w1.heap.size = g := ⟨_, rfl⟩
  rw [hg] at hst hmk hgb hsz3
  have hgw3 : g < w3.heap.size := by omega
  have HST := Lib.hid hst
  have HB3 := Lib.hid hB3
  clear hi4 hz4 hn4' hy4 hg HC hst hB3 hb1
  go_wp2
  clear hmk
  go_loopw [4, 6, 7, 8, 9, 10, 19] (fun v _ _ _ _ _ i wr => ∃ k : Nat, ∃ f u, k ≤ n ∧ i = .int .i64 k ∧ RwI wr w3.heap.size v f (Pl.gr l k) ∧ StB wr g n u ∧ Hid (∀ q : Nat, q < n → u q = decide (q ∈ (Pl.ord l).take k)) ∧ Below w.heap.size w wr) (fun _ _ _ _ _ _ i _ => n - (intOf i).toNat)
  case atStart => exact ⟨0, (fun _ => .slice none 0 0), _, Nat.zero_le _, rfl, Rws.nil _ _ _, HST.out, Lib.hid (fun q hq => by simp), HB3.out⟩
  case round =>
    obtain ⟨k, f, u, hk, rfl, hR, hst, hu, hW⟩ := hrel
    obtain ⟨wo, rfl⟩ : ∃ wo, wo = wr := ⟨_, rfl⟩
    by_cases hlt : k < n
    · have hltI : (k : Int) < (n : Int) := by omega
      have HR := Lib.hid hR
      have HS := Lib.hid hst
      have HW := Lib.hid hW
      have hgo : g < wo.heap.size := hst.lt
      clear hR hst hW
      go_wp2
      go_loopw [6, 7] (fun nv i wr => ∃ j : Nat, j ≤ n ∧ i = .int .i64 j ∧ ((nv = .int .i64 (-1) ∧ Hid (∀ q, q < j → q ∈ (Pl.ord l).take k)) ∨ ∃ b : Nat, nv = .int .i64 b ∧ b < n ∧ Hid (Pl.Lst' l k j b)) ∧ Below wo.heap.size wo wr) (fun _ i _ => n - (intOf i).toNat)
      case atStart => exact ⟨0, Nat.zero_le _, rfl, .inl ⟨rfl, Lib.hid (fun q hq => absurd hq (Nat.not_lt_zero _))⟩, Below.refl _ _⟩
      case round =>
        obtain ⟨j, hj, rfl, hcase, hW2⟩ := hrel
        obtain ⟨w2, rfl⟩ : ∃ w2, w2 = wr := ⟨_, rfl⟩
        by_cases hltj : j < n
        · have hltjI : (j : Int) < (n : Int) := by omega
          have HWW := Lib.hid (HW.out.trans (hW2.mono HW.out.size))
          obtain ⟨bz, oz, rfl, hbz, hcz⟩ := bts_open HI.out (by rw [HN.out]; omega)
          have HCZ := Lib.hid (fun i (hi : i < n) => bts_cells hbz hcz HWW.out (i := i) (by rw [HN.out]; exact hi))
          have hbz2 : bz < w2.heap.size := Nat.lt_of_lt_of_le hbz HWW.out.size
          have hcu := (HS.out.below hW2 hgo).cell hltj
          obtain ⟨y, hy⟩ : ∃ y, u j = y := ⟨_, rfl⟩
          rw [hy] at hcu
          have HY : Hid (decide (j ∈ (Pl.ord l).take k) = y) := Lib.hid (by rw [← hu.out j hltj, hy])
          have hcu' := fun s : Ext w2 => s.cell (p := ⟨g, j, none⟩) hcu
          have r1 := HCZ.out j hltj
          clear hy hcu hcz
          have y10 := fun s : Ext w2 => (bt_cells (ext_range s r1 hbz2)).1
          have y11 := fun s : Ext w2 => (bt_cells (ext_range s r1 hbz2)).2.1
          have y12 := fun s : Ext w2 => (bt_cells (ext_range s r1 hbz2)).2.2.1
          have y13 := fun s : Ext w2 => (bt_cells (ext_range s r1 hbz2)).2.2.2.1
          have y14 := fun s : Ext w2 => (bt_cells (ext_range s r1 hbz2)).2.2.2.2.1
          have y15 := fun s : Ext w2 => (bt_cells (ext_range s r1 hbz2)).2.2.2.2.2.1
          have y16 := fun s : Ext w2 => (bt_cells (ext_range s r1 hbz2)).2.2.2.2.2.2
          clear r1
          cases y
          · have hjn : Hid (j ∉ (Pl.ord l).take k) := Lib.hid (of_decide_eq_false HY.out)
            rcases hcase with ⟨rfl, hall⟩ | ⟨b, rfl, hbn, hb⟩
            · have HL : Hid (Pl.Lst' l k (j + 1) j) := Lib.hid ⟨by omega, hjn.out, fun q hq hqn => by
                rcases Nat.lt_succ_iff_lt_or_eq.1 hq with h' | rfl
                · exact absurd (hall.out q h') hqn
                · exact .inl rfl⟩
              go_wp2
              refine wp_region_ext (by kernel_rfl) (by kernel_rfl) ?_
              repeat (go_big_quiet_step (fail))
              refine wpQuiet_nil ?_
              rintro _ ⟨s, rfl⟩
              go_wp2
              go_roundw
              case rel => exact ⟨j + 1, by omega, by go_num, .inr ⟨j, rfl, hltj, HL⟩, hW2.trans (s.h.mono hW2.size)⟩
              case measure => simp [intOf]; omega
            · have r2 := HCZ.out b hbn
              have y20 := fun s : Ext w2 => (bt_cells (ext_range s r2 hbz2)).1
              have y21 := fun s : Ext w2 => (bt_cells (ext_range s r2 hbz2)).2.1
              have y22 := fun s : Ext w2 => (bt_cells (ext_range s r2 hbz2)).2.2.1
              have y23 := fun s : Ext w2 => (bt_cells (ext_range s r2 hbz2)).2.2.2.1
              have y24 := fun s : Ext w2 => (bt_cells (ext_range s r2 hbz2)).2.2.2.2.1
              have y25 := fun s : Ext w2 => (bt_cells (ext_range s r2 hbz2)).2.2.2.2.2.1
              have y26 := fun s : Ext w2 => (bt_cells (ext_range s r2 hbz2)).2.2.2.2.2.2
              have hbI : (b : Int) < (n : Int) := by omega
              have hb0 : decide ((b : Int) < 0) = false := decide_eq_false (by omega)
              clear r2
              obtain ⟨z, hz⟩ : ∃ z, decide (Pl.Low (Pl.at' l j) (Pl.at' l b)) = z := ⟨_, rfl⟩
              have HZ := Lib.hid hz
              have HCL := Lib.hid (fun w => ahead_b (Pl.at' l j) (Pl.at' l b) z hz w)
              clear hz
              have HL1 : Hid (z = true → Pl.Lst' l k (j + 1) j) := Lib.hid (fun h => ⟨by omega, hjn.out, fun q hq hqn => by
                have hlow := of_decide_eq_true (HZ.out.trans h)
                rcases Nat.lt_succ_iff_lt_or_eq.1 hq with h' | rfl
                · rcases hb.out.2.2 q h' hqn with e | e
                  · rw [e]; exact .inr hlow
                  · exact .inr (HLT.out _ _ hlow q e)
                · exact .inl rfl⟩)
              have HL2 : Hid (z = false → Pl.Lst' l k (j + 1) b) := Lib.hid (fun h => ⟨by have := hb.out.1; omega, hb.out.2.1, fun q hq hqn => by
                have hlow := of_decide_eq_false (HZ.out.trans h)
                rcases Nat.lt_succ_iff_lt_or_eq.1 hq with h' | rfl
                · exact hb.out.2.2 q h' hqn
                · exact HTOT.out q b hltj hbn hlow⟩)
              generalize Pl.at' l j = EE at *
              generalize Pl.at' l b = FF at *
              cases z
              · have HL := Lib.hid (HL2.out rfl)
                go_wp2
                refine wp_region_ext (by kernel_rfl) (by kernel_rfl) ?_
                repeat (go_big_quiet_step ((go_at_call 56; refine calls_ext (HCL.out _))))
                refine wpQuiet_nil ?_
                rintro _ ⟨s, rfl⟩
                go_wp2
                go_roundw
                case rel => exact ⟨j + 1, by omega, by go_num, .inr ⟨b, rfl, hbn, HL⟩, hW2.trans (s.h.mono hW2.size)⟩
                case measure => simp [intOf]; omega
              · have HL := Lib.hid (HL1.out rfl)
                go_wp2
                refine wp_region_ext (by kernel_rfl) (by kernel_rfl) ?_
                repeat (go_big_quiet_step ((go_at_call 56; refine calls_ext (HCL.out _))))
                refine wpQuiet_nil ?_
                rintro _ ⟨s, rfl⟩
                go_wp2
                go_roundw
                case rel => exact ⟨j + 1, by omega, by go_num, .inr ⟨j, rfl, hltj, HL⟩, hW2.trans (s.h.mono hW2.size)⟩
                case measure => simp [intOf]; omega
          · have hjn : Hid (j ∈ (Pl.ord l).take k) := Lib.hid (of_decide_eq_true HY.out)
            have HX : Hid (∀ nv, ((nv = Value.int .i64 (-1) ∧ Hid (∀ q, q < j → q ∈ (Pl.ord l).take k)) ∨ ∃ b : Nat, nv = .int .i64 b ∧ b < n ∧ Hid (Pl.Lst' l k j b)) → ((nv = Value.int .i64 (-1) ∧ Hid (∀ q, q < j + 1 → q ∈ (Pl.ord l).take k)) ∨ ∃ b : Nat, nv = .int .i64 b ∧ b < n ∧ Hid (Pl.Lst' l k (j + 1) b))) := Lib.hid (fun nv h => by
              rcases h with ⟨rfl, hall⟩ | ⟨b, rfl, hbn, hb⟩
              · exact .inl ⟨rfl, Lib.hid (fun q hq => by
                  rcases Nat.lt_succ_iff_lt_or_eq.1 hq with h' | rfl
                  · exact hall.out q h'
                  · exact hjn.out)⟩
              · exact .inr ⟨b, rfl, hbn, Lib.hid ⟨by have := hb.out.1; omega, hb.out.2.1, fun q hq hqn => by
                  rcases Nat.lt_succ_iff_lt_or_eq.1 hq with h' | rfl
                  · exact hb.out.2.2 q h' hqn
                  · exact absurd hjn.out hqn⟩⟩)
            have HCS := Lib.hid (HX.out _ hcase)
            clear hcase HX
            go_wp2
            refine wp_region_ext (by kernel_rfl) (by kernel_rfl) ?_
            repeat (go_big_quiet_step (fail))
            refine wpQuiet_nil ?_
            rintro _ ⟨s, rfl⟩
            go_wp2
            go_roundw
            case rel => exact ⟨j + 1, by omega, by go_num, HCS.out, hW2.trans (s.h.mono hW2.size)⟩
            case measure => simp [intOf]; omega
        · obtain rfl : n = j := by omega
          rcases hcase with ⟨rfl, hall⟩ | ⟨b, rfl, hbn, hb⟩
          · exact absurd (hall.out _ (HNX.out k hlt).1) (HNX.out k hlt).2
          have HBN : Hid (b = Pl.nx l k) := Lib.hid (HEND.out k b hlt hb.out)
          have HNXk := Lib.hid (HNX.out k hlt)
          have HMSk := Lib.hid (HMS.out k hlt)
          rw [← HBN.out] at HNXk HMSk
          have HG : Hid (∀ a, Pl.At' l (Pl.gr l k) (Pl.at' l b) (Pl.gr l k).length a → (a = -1 ∧ Pl.rw l k = (Pl.gr l k).length) ∨ ∃ p : Nat, p < (Pl.gr l k).length ∧ a = p ∧ Pl.rw l k = p) := Lib.hid (fun a h => Pl.at_end (by rw [← HBN.out]; exact h))
          have HPUT : Hid (Pl.gr l (k + 1) = Pl.put (Pl.gr l k) (Pl.rw l k) b) := Lib.hid (by rw [HBN.out]; exact Pl.gr_succ l k)
          have HRFk := Lib.hid (HRF.out k (by omega))
          have HRLk := Lib.hid (HRL.out k)
          have hfr := (HS.out.below hW2 hgo).frozen b
          have hcu := (HS.out.below hW2 hgo).cell hbn
          have hst2 := Lib.hid ((HS.out.below hW2 hgo).set (f' := fun t => if t = b then true else u t) b true (fun t _ => rfl))
          have HU2 : Hid (∀ q : Nat, q < n → (fun t => if t = b then true else u t) q = decide (q ∈ (Pl.ord l).take (k + 1))) := Lib.hid (fun q hq => by
            show (if q = b then true else u q) = _
            by_cases e : q = b
            · rw [if_pos e, decide_eq_true ((HMSk.out q).2 (.inr e))]
            · rw [if_neg e, hu.out q hq, decide_eq_decide, HMSk.out q]
              exact ⟨.inl, fun h => h.resolve_right e⟩)
          have hW3 := Lib.hid (HW.out.trans ((hW2.mono HW.out.size).setCell (p := ⟨g, b, none⟩) hgb (.bool true)))
          have HR2 := Lib.hid ((HR.out.below hW2).kept (b := some g) (W' := w2.setCell ⟨g, b, none⟩ (.bool true)) (grownBy_set1 w2 g b (.bool true)) (own_off HR.out.own.lt hgw3) (fun j hj => own_off (HR.out.row j hj).lt hgw3))
          clear hb hu hW2 HEND HNX HMS HRF HRL
          obtain ⟨rows, hrows⟩ : ∃ r, Pl.gr l k = r := ⟨_, rfl⟩
          rw [hrows] at HG HPUT HRFk HRLk HR2
          clear HR HS HW
          go_wp2
          have HBP : b < n := hbn
          have hrl4 : rows.length ≤ 40 := by have := HRLk.out; omega
          go_loopw [8, 9, 10] (fun av i _ wr => ∃ j : Nat, ∃ a : Int, j ≤ rows.length ∧ i = .int .i64 j ∧ av = .int .i64 a ∧ Hid (Pl.At' l rows (Pl.at' l b) j a) ∧ Below (w2.setCell ⟨g, b, none⟩ (.bool true)).heap.size (w2.setCell ⟨g, b, none⟩ (.bool true)) wr) (fun _ i _ _ => rows.length - (intOf i).toNat)
          case atStart => exact ⟨0, -1, Nat.zero_le _, rfl, rfl, Lib.hid Pl.at_zero, Below.refl _ _⟩
          case round =>
            obtain ⟨j, a, hj, rfl, rfl, hA, hW4⟩ := hrel
            obtain ⟨w4, rfl⟩ : ∃ w4, w4 = wr := ⟨_, rfl⟩
            obtain ⟨AV, cV, hv, hrr, _⟩ := HR2.out.open encIr
            subst hv
            by_cases hltj : j < rows.length
            · have hltjI : (j : Int) < (rows.length : Int) := by omega
              obtain ⟨bb, ob, rfl, hbb, hcb⟩ := hrr.open (by omega)
              obtain ⟨A1, c1, p0, ra, _⟩ := hcb j hltj
              obtain ⟨e1, e2, e3⟩ := HRFk.out j hltj
              have HLE : Hid (Pl.le l rows j = Pl.at' l (Pl.lst (rows.getD j []))) := Lib.hid rfl
              have hlast : ∀ h, (rows.getD j [])[(rows.getD j []).length - 1]'h = Pl.lst (rows.getD j []) := fun h => by
                unfold Pl.lst
                rw [List.getLast?_eq_getElem?, List.getElem?_eq_getElem h]; rfl
              obtain ⟨row, hrow⟩ : ∃ r, rows.getD j [] = r := ⟨_, rfl⟩
              rw [hrow] at p0 ra e1 e2 e3 HLE hlast
              obtain ⟨m, hm⟩ : ∃ m, row.length = m + 1 := ⟨row.length - 1, by omega⟩
              rw [hm] at p0 e2
              obtain ⟨ba, oa, rfl, hba, hca⟩ := ra.open (by omega)
              have HEP := Lib.hid (fun p hp h0 => rr_end hbb hcb hW4 (j := p) hp h0)
              have HZG := Lib.hid (HVB.out (Pl.lst row) (by have := HN.out; omega))
              have q1 := row_cell (mk := fun x : Nat => Value.int .i64 (x : Int)) hba hca hW4 (i := m) (by omega)
              have hl2 : row[m]'(by omega) = Pl.lst row := by rw [← hlast (by omega)]; congr 1; omega
              rw [hl2] at q1
              have q0 := (hW4.cell (p := ⟨bb, ob + j, none⟩) hbb).trans p0
              rw [HN.out] at e3
              have HWW := Lib.hid (hW3.out.trans (hW4.mono hW3.out.size))
              obtain ⟨bz, oz, rfl, hbz, hcz⟩ := bts_open HI.out (by rw [HN.out]; omega)
              have r1 := bts_cells hbz hcz HWW.out (i := Pl.lst row) (by rw [HN.out]; exact e3)
              have e3I : ((Pl.lst row : Nat) : Int) < (n : Int) := by omega
              have hbz2 : bz < w4.heap.size := Nat.lt_of_lt_of_le hbz HWW.out.size
              generalize Pl.lst row = z at *
              have k1 : IntKind.i64.wrap (((m + 1 : Nat) : Int) - 1) = (m : Int) := by rw [show ((m + 1 : Nat) : Int) - 1 = (m : Int) from by omega]; exact IntWalk.i64_in _ (by omega)
              have k2 : ((m + 1 : Nat) : Int) - 1 = (m : Int) := by omega
              have k3 : (m : Int) < ((m + 1 : Nat) : Int) := by omega
              obtain ⟨c10, c11, c12, c13, c14, c15, c16⟩ := bt_cells r1
              have k5 : IntKind.i64.wrap (m : Int) = (m : Int) := IntWalk.i64_in _ (by omega)
              have hbb4 : bb < w4.heap.size := Nat.lt_of_lt_of_le hbb hW4.size
              have hba4 : ba < w4.heap.size := Nat.lt_of_lt_of_le hba hW4.size
              have hal : ∀ (p : Addr) (v : Value), p.block < w4.heap.size → w4.cell? p = some v → (w4.alloc (.cells #[.int .i64 0, .int .i64 0, .int .i64 0, .int .i64 0, .int .i64 0, .int .i64 0, .int .i64 0] 25)).cell? p = some v := fun p v hp h => (((Below.refl w4.heap.size w4).alloc (Nat.le_refl _) _).cell hp).trans h
              have q0' := hal ⟨bb, ob + j, none⟩ _ hbb4 q0
              have q1' := hal ⟨ba, oa + m, none⟩ _ hba4 q1
              have d10 := hal ⟨bz, oz + z * 7, none⟩ _ hbz2 c10
              have d11 := hal ⟨bz, oz + z * 7 + 1, none⟩ _ hbz2 c11
              have d12 := hal ⟨bz, oz + z * 7 + 2, none⟩ _ hbz2 c12
              have d13 := hal ⟨bz, oz + z * 7 + 3, none⟩ _ hbz2 c13
              have d14 := hal ⟨bz, oz + z * 7 + 4, none⟩ _ hbz2 c14
              have d15 := hal ⟨bz, oz + z * 7 + 5, none⟩ _ hbz2 c15
              have d16 := hal ⟨bz, oz + z * 7 + 6, none⟩ _ hbz2 c16
              clear hcb hca ra hlast hl2 hm e1 p0 hal r1
              go_wp2
              go_region
              obtain ⟨w5, hw5⟩ : ∃ w5, w5 = (w4.alloc (.cells (btA (Pl.at' l z)) 25)).drew := ⟨_, rfl⟩
              have hB5 : Below w4.heap.size w4 w5 := by rw [hw5]; exact ((Below.refl w4.heap.size w4).alloc (Nat.le_refl _) (.cells (btA (Pl.at' l z)) 25)).drew
              have bL : Blk w5 w4.heap.size 25 (btA (Pl.at' l z)) := by rw [hw5]; exact (Blk.new w4 25 (btA (Pl.at' l z))).drew
              rw [← hw5]
              have hW5 := hW4.trans (hB5.mono hW4.size)
              have HWW5 := Lib.hid (HWW.out.trans (hB5.mono HWW.out.size))
              have r2 := bts_cells hbz (fun j hj => (by assumption : ∀ j, j < l.length → w.rangeAt bz (oz + j * 7) (btA (l.getD j Pl.zb)).toList) j hj) HWW5.out (i := b) (by rw [HN.out]; exact HBP)
              have hbz5 : bz < w5.heap.size := Nat.lt_of_lt_of_le hbz HWW5.out.size
              obtain ⟨x1, h1⟩ : ∃ x, Pl.may (Pl.at' l z) (Pl.at' l b) = x := ⟨_, rfl⟩
              have H1 := Lib.hid (fun W => rmay_b (Pl.at' l z) (Pl.at' l b) x1 h1 W)
              have HMM : Hid (Pl.may (Pl.le l rows j) (Pl.at' l b) = x1) := Lib.hid (by rw [HLE.out]; exact h1)
              have HGZ : Hid (0 ≤ (Pl.le l rows j).grain) := Lib.hid (by rw [HLE.out]; exact HZG.out)
              have HGE : Hid ((Pl.le l rows j).grain = (Pl.at' l z).grain) := Lib.hid (by rw [HLE.out])
              have HCZ5 := Lib.hid (fun i (hi : i < n) => bts_cells hbz hcz HWW5.out (i := i) (by rw [HN.out]; exact hi))
              have t0 := fun s : Ext w5 => s.cell (p := ⟨w4.heap.size, 0, none⟩) ((bL.cell 0).trans rfl)
              have t1 := fun s : Ext w5 => s.cell (p := ⟨w4.heap.size, 1, none⟩) ((bL.cell 1).trans rfl)
              have t2 := fun s : Ext w5 => s.cell (p := ⟨w4.heap.size, 2, none⟩) ((bL.cell 2).trans rfl)
              have t3 := fun s : Ext w5 => s.cell (p := ⟨w4.heap.size, 3, none⟩) ((bL.cell 3).trans rfl)
              have t4 := fun s : Ext w5 => s.cell (p := ⟨w4.heap.size, 4, none⟩) ((bL.cell 4).trans rfl)
              have t5 := fun s : Ext w5 => s.cell (p := ⟨w4.heap.size, 5, none⟩) ((bL.cell 5).trans rfl)
              have t6 := fun s : Ext w5 => s.cell (p := ⟨w4.heap.size, 6, none⟩) ((bL.cell 6).trans rfl)
              have y20 := fun s : Ext w5 => (bt_cells (ext_range s r2 hbz5)).1
              have y21 := fun s : Ext w5 => (bt_cells (ext_range s r2 hbz5)).2.1
              have y22 := fun s : Ext w5 => (bt_cells (ext_range s r2 hbz5)).2.2.1
              have y23 := fun s : Ext w5 => (bt_cells (ext_range s r2 hbz5)).2.2.2.1
              have y24 := fun s : Ext w5 => (bt_cells (ext_range s r2 hbz5)).2.2.2.2.1
              have y25 := fun s : Ext w5 => (bt_cells (ext_range s r2 hbz5)).2.2.2.2.2.1
              have y26 := fun s : Ext w5 => (bt_cells (ext_range s r2 hbz5)).2.2.2.2.2.2
              have hbI : (b : Int) < (n : Int) := by omega
              clear h1 r2 hw5 bL q0 q1 q0' q1' c10 c11 c12 c13 c14 c15 c16 d10 d11 d12 d13 d14 d15 d16 hcz hW4 k1 k2 k3 k5
              cases x1
              · have HA' := Lib.hid (Pl.at_no hA.out HMM.out)
                go_wp2
                refine wp_region_ext (by kernel_rfl) (by kernel_rfl) ?_
                repeat (go_big_quiet_step ((go_at_call 52; refine calls_ext (H1.out _))))
                refine wpQuiet_nil ?_
                rintro _ ⟨s, rfl⟩
                go_wp2
                go_roundw
                case rel => exact ⟨j + 1, a, by omega, by go_num, rfl, HA', hW5.trans (s.h.mono hW5.size)⟩
                case measure => simp [intOf]; omega
              · rcases (show a = -1 ∨ ∃ p : Nat, p < j ∧ a = p from hA.out.imp (fun h => h.1) (fun ⟨p, h1, h2, _⟩ => ⟨p, h1, h2⟩)) with rfl | ⟨p, hpj, rfl⟩
                · have HA' := Lib.hid (Pl.at_first hA.out HMM.out HGZ.out)
                  go_wp2
                  refine wp_region_ext (by kernel_rfl) (by kernel_rfl) ?_
                  repeat (go_big_quiet_step ((go_at_call 52; refine calls_ext (H1.out _))))
                  refine wpQuiet_nil ?_
                  rintro _ ⟨s, rfl⟩
                  go_wp2
                  go_roundw
                  case rel => exact ⟨j + 1, j, by omega, by go_num, rfl, HA', hW5.trans (s.h.mono hW5.size)⟩
                  case measure => simp [intOf]; omega
                · obtain ⟨f1, f2, f3⟩ := HRFk.out p (by omega)
                  rw [HN.out] at f3
                  obtain ⟨ba2, oa2, m2, c2, L2, hL2, u0, u1, u2, u3, u4⟩ := HEP.out p (by omega) f1
                  have HLP : Hid ((Pl.le l rows p).grain = (Pl.at' l (Pl.lst (rows.getD p []))).grain) := Lib.hid rfl
                  have r3 := HCZ5.out (Pl.lst (rows.getD p [])) f3
                  have hp0 : decide ((p : Int) < 0) = false := decide_eq_false (by omega)
                  have hpI : (p : Int) < (rows.length : Int) := by omega
                  have f3I : ((Pl.lst (rows.getD p []) : Nat) : Int) < (n : Int) := by omega
                  have g0 := fun s : Ext w5 => s.cell (p := ⟨bb, ob + p, none⟩) ((hB5.cell u2).trans u0)
                  have g1 := fun s : Ext w5 => s.cell (p := ⟨ba2, oa2 + m2, none⟩) ((hB5.cell u1).trans u3)
                  have g2 := fun s : Ext w5 => (bt_cells (ext_range s r3 hbz5)).2.2.1
                  have hAN := Lib.hid (Pl.at_next hA.out HMM.out)
                  have hAS := Lib.hid (Pl.at_stay (l := l) (rows := rows) (b := Pl.at' l b) (k := j) (p := p) hA.out)
                  rw [HGE.out, HLP.out] at hAN hAS
                  have k1 : IntKind.i64.wrap ((L2 : Int) - 1) = (m2 : Int) := by rw [show (L2 : Int) - 1 = (m2 : Int) from by omega]; exact IntWalk.i64_in _ (by omega)
                  have k2 : (L2 : Int) - 1 = (m2 : Int) := by omega
                  have k3 : (m2 : Int) < (L2 : Int) := by omega
                  have hm24 : m2 + 1 ≤ 40 := by omega
                  have k5 : IntKind.i64.wrap (m2 : Int) = (m2 : Int) := IntWalk.i64_in _ (by omega)
                  clear u0 u3 r3 f1 f2 hL2 u4
                  generalize Pl.lst (rows.getD p []) = zp at *
                  by_cases hgg : (Pl.at' l zp).grain < (Pl.at' l z).grain
                  · have HA' := Lib.hid (hAN.out hgg)
                    go_wp2
                    refine wp_region_ext (by kernel_rfl) (by kernel_rfl) ?_
                    repeat (go_big_quiet_step ((go_at_call 52; refine calls_ext (H1.out _))))
                    refine wpQuiet_nil ?_
                    rintro _ ⟨s, rfl⟩
                    go_wp2
                    go_roundw
                    case rel => exact ⟨j + 1, j, by omega, by go_num, rfl, HA', hW5.trans (s.h.mono hW5.size)⟩
                    case measure => simp [intOf]; omega
                  · have HA' := Lib.hid (hAS.out hgg)
                    have hgd : decide ((Pl.at' l zp).grain < (Pl.at' l z).grain) = false := decide_eq_false hgg
                    go_wp2
                    refine wp_region_ext (by kernel_rfl) (by kernel_rfl) ?_
                    repeat (go_big_quiet_step ((go_at_call 52; refine calls_ext (H1.out _))))
                    refine wpQuiet_nil ?_
                    rintro _ ⟨s, rfl⟩
                    go_wp2
                    go_roundw
                    case rel => exact ⟨j + 1, p, by omega, by go_num, rfl, HA', hW5.trans (s.h.mono hW5.size)⟩
                    case measure => simp [intOf]; omega
            · obtain rfl : j = rows.length := by omega
              have hA' := HG.out a hA.out
              have hRW := HR2.out.below hW4
              have HS4 := Lib.hid (hst2.out.below hW4 hst2.out.lt)
              have HB4 := Lib.hid (hW3.out.trans (hW4.mono hW3.out.size))
              have hgw4 : g < w4.heap.size := HS4.out.lt
              have hw34 : w3.heap.size ≤ w4.heap.size := by omega
              clear hrr HR2 hA hst2 hW3 hW4
              obtain ⟨m, hm⟩ : ∃ m, rows.length = m := ⟨_, rfl⟩
              rw [hm] at hrl4 hRW
              have HM := Lib.hid hm
              rw [hm]
              rcases hA' with ⟨rfl, hrw⟩ | ⟨p, hp, rfl, hrw⟩
              · have HPUT4 : Hid (Pl.gr l (k + 1) = rows ++ [[b]]) := Lib.hid (by rw [HPUT.out, hrw]; unfold Pl.put; rw [if_neg (by omega)])
                have HX1 := Lib.hid (World.ownsRow_lit (base := w3.heap.size) (e := 3) (size := 1) w4 #[Value.int .i64 b] 1 hw34 (by unfold maxLen; omega) rfl)
                have hRW1 := hRW.below ((Below.refl _ _).alloc (Nat.le_refl _) (.cells #[Value.int .i64 b] 3))
                have HX2 := Lib.hid (hRW1.own.alloc (.cells #[.slice (some ⟨w4.heap.size, 0, none⟩) 1 1] 42))
                rw [hm] at HX2
                have HRW := Lib.hid hRW
                clear hRW hRW1 hm hrw
                go_wp2_with (at_builtin; refine wpList_append_at rfl _ _ 33 rfl w3.heap.size 42 i42 _ 1 24 Try.underlying33 hi42 hz42 hn42 hy42 rfl (by decide) _ _ _ rfl HX2.out ⟨w4.heap.size + 1, 0, none⟩ 1 1 [.slice (some ⟨w4.heap.size, 0, none⟩) 1 1] rfl rfl (new_cells' _ _ _ (by simp)) (by simp [Value.oneCell']) (by unfold maxLen; omega) (by omega) (by simp; omega) ?_; intro v9 w9 hown9 hgrow9 hloc9)
                have hlv : ∀ s, (Value.slice AV m cV).ownBlock = some s → s < w4.heap.size := fun s e => (HRW.out.own.lt s e).2
                have hg9 : w4.grownBy w9 (Value.slice AV m cV).ownBlock := grownBy_allocs ((((Below.refl w4.heap.size w4).alloc (Nat.le_refl _) _).alloc (by simp) _)) hgrow9
                have hx9 : w9.ownsRow w3.heap.size 3 1 (.slice (some ⟨w4.heap.size, 0, none⟩) 1 1) 1 (irc b) := (HX1.out.alloc (.cells #[.slice (some ⟨w4.heap.size, 0, none⟩) 1 1] 42)).kept hgrow9 (.inr (fun e => by
                  have := hlv w4.heap.size e.symm
                  omega))
                have HR9 := Rws.pushOne HRW.out HM.out (u := .slice (some ⟨w4.heap.size, 0, none⟩) 1 1) (x := b) (g := w4.heap.size) rfl (Nat.le_refl _) hown9 hx9 hg9 (hloc9.imp id (fun e => ⟨_, e, by simp; omega, by simp; omega⟩))
                rw [← HPUT4.out] at HR9
                have hB9 : Below w3.heap.size w4 w9 := (Below.refl w3.heap.size w4).grown hg9 hw34 (fun s e => (HRW.out.own.lt s e).1)
                have hS9 := HS4.out.below hB9 hgw3
                have hBB9 := HB4.out.trans (hB9.mono (by omega))
                clear hown9 hgrow9 hloc9 hx9 hg9 hB9 hlv
                go_roundw
                case rel => exact ⟨k + 1, _, _, by omega, by go_num, HR9, hS9, HU2, hBB9⟩
                case measure => simp [intOf]; omega
              · have hp4 : p < m := by omega
                have HPUT4 : Hid (rows.set p (rows.getD p [] ++ [b]) = Pl.gr l (k + 1)) := Lib.hid (by rw [HPUT.out, hrw]; exact Pl.put_lt (by omega))
                obtain ⟨g1, cap, hvv⟩ : ∃ g cap, (Value.slice AV m cV) = .slice (some ⟨g, 0, none⟩) m cap := by
                  rcases hRW.own.2 with ⟨_, hz⟩ | ⟨g, cap, cur, hv3, _⟩
                  · rw [hm] at hz; omega
                  · cases hv3; exact ⟨g, _, rfl⟩
                cases hvv
                have hq3 := hRW.cell hp4
                have hlen4 : (rows.getD p []).length ≤ 40 := (HRFk.out p (by omega)).2.1
                have hpI : (p : Int) < (m : Int) := by omega
                have hpz : ¬ (p : Int) < 0 := by omega
                have HOW := Lib.hid ((hRW.row p (by omega)).alloc (.cells (irc b).toArray 3))
                have HRA := Lib.hid (hRW.below ((Below.refl _ _).alloc (Nat.le_refl _) (.cells (irc b).toArray 3)))
                clear hRW hm hrw HRFk HRLk
                obtain ⟨fr, hfr⟩ : ∃ fr, f p = fr := ⟨_, rfl⟩
                have HFR := Lib.hid hfr
                rw [hfr] at hq3 HOW
                obtain ⟨zl, hzl⟩ : ∃ z, (rows.getD p []).length = z := ⟨_, rfl⟩
                have HZL1 := Lib.hid hzl
                rw [hzl] at hlen4 HOW
                clear hzl hfr
                go_wp2_with (at_builtin; refine wpList_append_at rfl _ _ 42 rfl w3.heap.size 3 i3 _ 1 8 Try.underlying42 hi3 hz3 hn3 hy3 rfl (by decide) fr _ _ rfl HOW.out ⟨w4.heap.size, 0, none⟩ 1 1 (irc b) rfl rfl (new_cells' _ _ _ rfl) (encIr.one b) (by unfold maxLen; omega) (by omega) (by simp; omega) ?_; intro v9 w9 hown9 hgrow9 hloc9; obtain ⟨g9, c9, rfl⟩ := own_pos hown9; obtain ⟨hq9', hf9⟩ := HRA.out.at9 hp4 (W1 := w9) (by rw [HFR.out]; exact hgrow9); have hq9 : w9.cell? _ = some fr := hq9'.trans (congrArg some HFR.out); clear hq9')
                obtain ⟨hR5, hB5'⟩ := Rws.grow HRA.out HM.out hp4 (u := .slice (some ⟨g9, 0, none⟩) (zl + 1) c9) (x := b) (by rw [HZL1.out]; exact hown9) (by rw [HFR.out]; exact hgrow9) (by rw [HFR.out]; exact hloc9)
                have hBA := ((Below.refl w3.heap.size w4).alloc hw34 (.cells (irc b).toArray 3)).trans hB5'
                have hS9 := HS4.out.below hBA hgw3
                have hBB9 := HB4.out.trans (hBA.mono (by omega))
                rw [HPUT4.out] at hR5
                clear hown9 hgrow9 hloc9 hBA hB5'
                go_roundw
                case rel => exact ⟨k + 1, _, _, by omega, by go_num, hR5, hS9, HU2, hBB9⟩
                case measure => simp [intOf]; omega
    · obtain rfl : n = k := by omega
      have HRO := Lib.hid hR
      clear hst hu
      go_wp2
      go_ret2
      exact ⟨_, f, rfl, by rw [HRR.out]; exact HRO.out.mono (by omega), hW⟩
end Go.Proofs.Ytlfbfdhdkccaeaa
