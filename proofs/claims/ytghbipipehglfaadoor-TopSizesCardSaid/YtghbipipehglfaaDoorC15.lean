/- Choosing a size for a head: cmp.Compare, cmp.Or, the comparison of Choose, slices.MinFunc. -/
import Derived.Test.YtghbipipehglfaaDoorP8
import Derived.Test.YtghbipipehglfaaDoorC4
import Derived.Test.YtghbipipehglfaaDoorC10
import Derived.Deep.RegionHeld
import Derived.Laws.Tables
namespace Go.Proofs.YtghbipipehglfaaDoor
open Go.RowKit Go.Shelf

namespace Pl
def cmpI (a b : Int) : Int := if a < b then -1 else if b < a then 1 else 0
theorem cmpI_lt {a b : Int} (h : a < b) : cmpI a b = -1 := if_pos h
theorem cmpI_gt {a b : Int} (h : b < a) : cmpI a b = 1 := by unfold cmpI; rw [if_neg (by omega), if_pos h]
theorem cmpI_eq {a b : Int} (h : a = b) : cmpI a b = 0 := by unfold cmpI; rw [if_neg (by omega), if_neg (by omega)]
def orI (a b : Int) : Int := if a = 0 then b else a
/-- what Choose compares -/
def chI (ss : List Sz) (h : Hd) (i j : Nat) : Int := orI (cmpI (sm (ss.getD i zsz) h) (sm (ss.getD j zsz) h)) (cmpI (ss.getD i zsz).code (ss.getD j zsz).code)
theorem chI_btr (ss : List Sz) (h : Hd) (i j : Nat) : decide (chI ss h i j < 0) = btr ss h i j := by
  unfold chI btr
  generalize sm (ss.getD i zsz) h = a
  generalize sm (ss.getD j zsz) h = b
  generalize (ss.getD i zsz).code = c
  generalize (ss.getD j zsz).code = d
  rw [Bool.eq_iff_iff, decide_eq_true_eq, Bool.or_eq_true, Bool.and_eq_true, decide_eq_true_eq, decide_eq_true_eq, decide_eq_true_eq]
  unfold orI cmpI
  split <;> split <;> (try split) <;> (try split) <;> omega
theorem chI_bd (ss : List Sz) (h : Hd) (i j : Nat) : -1 ≤ chI ss h i j ∧ chI ss h i j ≤ 1 := by
  unfold chI orI cmpI
  split <;> split <;> (try split) <;> (try split) <;> omega
end Pl

set_option maxHeartbeats 400000 in
theorem cmp_any (a b : Int) (w : World) : Calls Tryd.prog 47 #[.int .i64 a, .int .i64 b] w fun e w' => e = .returned (.int .i64 (Pl.cmpI a b)) ∧ w' = w := by
  rcases Int.lt_trichotomy a b with h | h | h
  · have H := Lib.hid (Pl.cmpI_lt h)
    go_enter Tryd.func47, Tryd.ntmps47
    go_wp2
    go_ret
    exact ⟨by rw [H.out]; rfl, rfl⟩
  · have H := Lib.hid (Pl.cmpI_eq h)
    have h1 : ¬ a < b := by omega
    have h2 : ¬ b < a := by omega
    clear h
    go_enter Tryd.func47, Tryd.ntmps47
    go_wp2
    go_ret
    exact ⟨by rw [H.out]; rfl, rfl⟩
  · have H := Lib.hid (Pl.cmpI_gt h)
    have h1 : ¬ a < b := by omega
    go_enter Tryd.func47, Tryd.ntmps47
    go_wp2
    go_ret
    exact ⟨by rw [H.out]; rfl, rfl⟩

set_option maxHeartbeats 400000 in
theorem or_any (g : Nat) (a b : Int) (w : World) (h0 : w.cell? ⟨g, 0, none⟩ = some (.int .i64 a)) (h1 : w.cell? ⟨g, 1, none⟩ = some (.int .i64 b)) :
    Calls Tryd.prog 46 #[.slice (some ⟨g, 0, none⟩) 2 2] w fun e w' => e = .returned (.int .i64 (Pl.orI a b)) ∧ w' = w := by
  go_enter Tryd.func46, Tryd.ntmps46
  go_wp2
  go_loop [8] (fun i => ∃ k : Nat, k ≤ 2 ∧ i = .int .i64 k ∧ (1 ≤ k → a = 0) ∧ (2 ≤ k → b = 0)) (fun i => 2 - (intOf i).toNat)
  case atStart => exact ⟨0, by omega, rfl, fun h => absurd h (by omega), fun h => absurd h (by omega)⟩
  case round =>
    obtain ⟨k, hk, rfl, ha, hb⟩ := hrel
    have HA := Lib.hid ha
    have HB := Lib.hid hb
    clear ha hb
    have hk3 : k = 0 ∨ k = 1 ∨ k = 2 := by omega
    rcases hk3 with rfl | rfl | rfl
    · by_cases hz : a = 0
      · have hz1 : (a != 0) = false := by simp [hz]
        have HZ := Lib.hid hz
        clear hz
        go_wp2
        go_round
        case rel => exact ⟨1, by omega, by simp, fun _ => HZ.out, fun h => absurd h (by omega)⟩
        case measure => simp [intOf]
      · have hz1 : (a != 0) = true := by simp [hz]
        have HZ := Lib.hid hz
        clear hz
        go_wp2
        go_ret
        exact ⟨by unfold Pl.orI; rw [if_neg HZ.out]; rfl, rfl⟩
    · by_cases hz : b = 0
      · have hz1 : (b != 0) = false := by simp [hz]
        have HZ := Lib.hid hz
        clear hz
        go_wp2
        go_round
        case rel => exact ⟨2, by omega, by simp, fun _ => HA.out (by omega), fun _ => HZ.out⟩
        case measure => simp [intOf]
      · have hz1 : (b != 0) = true := by simp [hz]
        have HZ := Lib.hid hz
        clear hz
        go_wp2
        go_ret
        exact ⟨by unfold Pl.orI; rw [if_pos (HA.out (by omega))]; rfl, rfl⟩
    · go_wp2
      go_ret
      exact ⟨by unfold Pl.orI; rw [if_pos (HA.out (by omega)), HB.out (by omega)]; rfl, rfl⟩

theorem wpOp_go' {P : Program} {ops : Array Oper} {Q : Exit → Act → World → Prop} {K : Act → World → Prop} {a : Act} {w : World} {i : Nat} {o : Oper} (ho : ops[i]? = some o) (hw : Region.wanted o (yielded ops a.tmps) = true)
    (h : ∀ K' : Act → World → Prop, (∀ a w, K a w → K' a w) → Oper.wp P o a w K' Q) : wpOp P ops Q i K a w :=
  wpOp_step ho fun K' hK => by rw [if_pos hw]; exact h K' hK
theorem yld_mid {ops : Array Oper} {S : World → Prop} {op : Oper} {a : Act} {b off : Nat} {E : Pl.Sz} (hS : ∀ w, S w → w.rangeAt b off (szA E).toList) (hw : Region.wanted op (yielded ops a.tmps) = true) (x : Operand) (ho : op.op = .load 46 x) (hx : a.eval x = .pointer (some ⟨b, off, none⟩)) : YieldsIf Tryd.prog ops S op (.agg (szA E)) a :=
  yieldsIf_load_mid hw 46 x ho b off hx (szA E).toList _ hS Tryd.underlying46 rfl info24
theorem yld_midh {ops : Array Oper} {S : World → Prop} {op : Oper} {a : Act} {b off : Nat} {E : Pl.Hd} (hS : ∀ w, S w → w.rangeAt b off (hdA E).toList) (hw : Region.wanted op (yielded ops a.tmps) = true) (x : Operand) (ho : op.op = .load 34 x) (hx : a.eval x = .pointer (some ⟨b, off, none⟩)) : YieldsIf Tryd.prog ops S op (.agg (hdA E)) a :=
  yieldsIf_load_mid hw 34 x ho b off hx (hdA E).toList _ hS Tryd.underlying34 rfl info26

/-- storing a whole size in a block of its own -/
theorem st_sz8 {o : Oper} {a : Act} {w : World} {K : Act → World → Prop} {Q : Exit → Act → World → Prop} {g : Nat} {cs : Array Value} {E : Pl.Sz} (hb : Blk w g 46 cs) (h17 : cs.size = 17) (x y : Operand) (ho : o.op = .store 46 x y)
    (hx : a.eval x = .pointer (some ⟨g, 0, none⟩)) (hy : a.eval y = .agg (szA E)) (h : ∀ W, Blk W g 46 (szA E) → Only g w W → K (a.put o.dst undef) W) : o.wp Tryd.prog a w K Q :=
  wp_store_row 46 x y ho g (szA E) hx hy 46 cs hb info24 h17 (szA_one E)
    (h _ (setRow_heap w g cs (szA E) 46 (0, 0) hb) ⟨rfl, rfl, rfl, setRow_size _ _ _, fun k hk => setRow_other w g k (szA E) hk⟩)
theorem hs8 {w W : World} {g g' : Nat} {t : TypeId} {cs : Array Value} (h : Blk w g t cs) (ho : Only g' w W) (hne : g ≠ g') : Blk W g t cs := (ho.block g hne).trans h

set_option maxRecDepth 100000 in
set_option maxHeartbeats 8000000 in
theorem choose1_any (A : Option Addr) (ss : List Pl.Sz) (h : Pl.Hd) (c bs bh i j : Nat) (hi : i < ss.length) (hj : j < ss.length) (w : World) (hv : ∀ k, k < ss.length → Pl.vsz (ss.getD k Pl.zsz) = true) (hh : Pl.vh h = true)
    (hI : Szs w A ss) (hbs : w.cell? ⟨bs, 0, none⟩ = some (.slice A ss.length c)) (hbh : Blk w bh 34 (hdA h)) :
    Calls Tryd.prog 45 (#[.int .i64 i, .int .i64 j] ++ #[.pointer (some ⟨bs, 0, none⟩), .pointer (some ⟨bh, 0, none⟩)]) w fun e w' => e = .returned (.int .i64 (Pl.chI ss h i j)) ∧ Below w.heap.size w w' := by
  have hN1 := Lib.hid (fun k (hk : k < 5) => Pl.nd_bd (hv i hi) hh hk)
  have hN2 := Lib.hid (fun k (hk : k < 5) => Pl.nd_bd (hv j hj) hh hk)
  have hv1 := Lib.hid (hv i hi)
  have hv2 := Lib.hid (hv j hj)
  have HH := Lib.hid hh
  have HR : Hid (Pl.chI ss h i j = Pl.orI (Pl.cmpI (Pl.sumK (Pl.nd (ss.getD i Pl.zsz) h) 5) (Pl.sumK (Pl.nd (ss.getD j Pl.zsz) h) 5)) (Pl.cmpI (ss.getD i Pl.zsz).code (ss.getD j Pl.zsz).code)) := Lib.hid rfl
  obtain ⟨bz, oz, rfl, hbz, hcz⟩ : ∃ bb off, A = some ⟨bb, off, none⟩ ∧ bb < w.heap.size ∧ ∀ j, j < ss.length → w.rangeAt bb (off + j * 17) (szA (ss.getD j Pl.zsz)).toList := by
    rcases hI with h | ⟨bb, off, he, hb, hc⟩
    · rw [h] at hi; simp at hi
    · exact ⟨bb, off, he, hb, hc⟩
  have r1 := hcz i hi
  have r2 := hcz j hj
  have hB0 := Below.refl w.heap.size w
  generalize Pl.chI ss h i j = R at *
  generalize ss.getD i Pl.zsz = E1 at *
  generalize ss.getD j Pl.zsz = E2 at *
  have hbsl : bs < w.heap.size := World.block_lt_of_cell? w _ hbs
  clear hcz hI hv hh
  change Calls _ _ #[.int .i64 i, .int .i64 j, .pointer (some ⟨bs, 0, none⟩), .pointer (some ⟨bh, 0, none⟩)] _ _
  go_enter Tryd.func45, Tryd.ntmps45
  go_wp2
  refine Code.wp_mono (Q := fun e' a' w' => e' = .normal ∧ ∃ b7 b8 y9 y10 y11 y12 y13 y14 y15 y16, a' = { tmps := #[.int .i64 i, .int .i64 j, .pointer (some ⟨bs, 0, none⟩), .pointer (some ⟨bh, 0, none⟩), undef, undef, .int .i64 0, .pointer (some ⟨b7, 0, none⟩), .pointer (some ⟨b8, 0, none⟩), y9, y10, y11, y12, y13, y14, y15, y16, undef, undef, undef, undef, undef, undef, undef, undef, undef, undef, undef, undef, undef, undef, undef, undef], defers := [] } ∧ Blk w' b7 46 (szA E1) ∧ Blk w' b8 46 (szA E2) ∧ Below w.heap.size w w') ?goon ?region
  case region =>
    refine wp_region_held (S := fun W => Below w.heap.size w W) (by kernel_rfl) ?_
    change wpAnyH _ _ _ _ _ _ _ _ (World.drew _)
    have hb0 := hB0.drew
    obtain ⟨W0, hW0⟩ : ∃ W0, World.drew w = W0 := ⟨_, rfl⟩
    rw [hW0] at hb0 ⊢
    clear hW0
    have hTs : ∀ W, Below w.heap.size w W → W.cell? ⟨bs, 0, none⟩ = some (.slice (some ⟨bz, oz, none⟩) ss.length c) := fun W hb => (hb.cell (p := ⟨bs, 0, none⟩) hbsl).trans hbs
    have hT1 : ∀ W, Below w.heap.size w W → W.rangeAt bz (oz + i * 17) (szA E1).toList := fun W hb => rangeAt_below r1 hbz hb
    have hT2 : ∀ W, Below w.heap.size w W → W.rangeAt bz (oz + j * 17) (szA E2).toList := fun W hb => rangeAt_below r2 hbz hb
    refine wpAnyH_take (i := 0) (v := ?_) rfl (by kernel_rfl) (by decide +kernel) (by decide +kernel) (fun _ _ _ h => by cases h.1) (Or.inl ⟨by rfl, ?_⟩) hb0 ?_
    rotate_left
    · intro w' hS; have q := hTs _ hS; first | (go_simp; done) | (go_simp; with_reducible rfl)
    refine wpAnyH_take (i := 1) (v := ?_) rfl (by kernel_rfl) (by decide +kernel) (by decide +kernel) (fun _ _ _ h => by cases h.1) (Or.inl ⟨by rfl, ?_⟩) hb0 ?_
    rotate_left
    · intro w' hS; first | (go_simp; done) | (go_simp; with_reducible rfl)
    refine wpAnyH_take (i := 2) (v := ?_) rfl (by kernel_rfl) (by decide +kernel) (by decide +kernel) (fun _ _ _ h => by cases h.1) (Or.inl ⟨by rfl, ?_⟩) hb0 ?_
    rotate_left
    · intro w' hS; first | (go_simp; done) | (go_simp; with_reducible rfl)
    refine wpAnyH_take (i := 3) (v := .agg (szA E1)) rfl (by kernel_rfl) (by decide +kernel) (by decide +kernel) (fun _ _ _ h => by cases h.1) (yld_mid hT1 (by kernel_rfl) _ rfl rfl) hb0 ?_
    refine wpAnyH_take (i := 4) (v := ?_) rfl (by kernel_rfl) (by decide +kernel) (by decide +kernel) (fun _ _ _ h => by cases h.1) (Or.inl ⟨by rfl, ?_⟩) hb0 ?_
    rotate_left
    · intro w' hS; have q := hTs _ hS; first | (go_simp; done) | (go_simp; with_reducible rfl)
    refine wpAnyH_take (i := 5) (v := ?_) rfl (by kernel_rfl) (by decide +kernel) (by decide +kernel) (fun _ _ _ h => by cases h.1) (Or.inl ⟨by rfl, ?_⟩) hb0 ?_
    rotate_left
    · intro w' hS; first | (go_simp; done) | (go_simp; with_reducible rfl)
    refine wpAnyH_take (i := 6) (v := ?_) rfl (by kernel_rfl) (by decide +kernel) (by decide +kernel) (fun _ _ _ h => by cases h.1) (Or.inl ⟨by rfl, ?_⟩) hb0 ?_
    rotate_left
    · intro w' hS; first | (go_simp; done) | (go_simp; with_reducible rfl)
    refine wpAnyH_take (i := 7) (v := .agg (szA E2)) rfl (by kernel_rfl) (by decide +kernel) (by decide +kernel) (fun _ _ _ h => by cases h.1) (yld_mid hT2 (by kernel_rfl) _ rfl rfl) hb0 ?_
    clear hTs hT1 hT2
    refine wpAnyH_all (rs := [8, 9]) (by decide +kernel) (by simp) ?_
    intro x hx
    rcases List.mem_cons.1 hx with rfl | hx
    · refine wpOp_go' rfl rfl (fun K hK => ?_)
      have hk1 := Blk.new W0 46 #[.int .i64 0, .int .i64 0, .int .i64 0, .int .i64 0, .int .i64 0, .int .i64 0, .int .i64 0, .int .i64 0, .int .i64 0, .int .i64 0, .int .i64 0, .int .i64 0, .int .i64 0, .int .i64 0, .int .i64 0, .int .i64 0, .int .i64 0]
      have hb1 := hb0.alloc hb0.size (.cells #[.int .i64 0, .int .i64 0, .int .i64 0, .int .i64 0, .int .i64 0, .int .i64 0, .int .i64 0, .int .i64 0, .int .i64 0, .int .i64 0, .int .i64 0, .int .i64 0, .int .i64 0, .int .i64 0, .int .i64 0, .int .i64 0, .int .i64 0] 46)
      have hz1 := hb0.size
      go_simp
      refine hK _ _ ⟨hb1, ?_⟩
      clear hK K hx
      generalize W0.alloc (.cells #[.int .i64 0, .int .i64 0, .int .i64 0, .int .i64 0, .int .i64 0, .int .i64 0, .int .i64 0, .int .i64 0, .int .i64 0, .int .i64 0, .int .i64 0, .int .i64 0, .int .i64 0, .int .i64 0, .int .i64 0, .int .i64 0, .int .i64 0] 46) = W1 at *
      generalize W0.heap.size = B1 at *
      refine wpAnyH_all (rs := [9]) (by decide +kernel) (by simp) ?_
      intro x hx
      obtain rfl := List.mem_singleton.1 hx
      refine wpOp_go' rfl rfl (fun K hK => ?_)
      have hl1 := hk1.lt
      have hne : B1 ≠ W1.heap.size := by omega
      have hk2 := Blk.new W1 46 #[.int .i64 0, .int .i64 0, .int .i64 0, .int .i64 0, .int .i64 0, .int .i64 0, .int .i64 0, .int .i64 0, .int .i64 0, .int .i64 0, .int .i64 0, .int .i64 0, .int .i64 0, .int .i64 0, .int .i64 0, .int .i64 0, .int .i64 0]
      have hk1 := hk1.alloc (.cells #[.int .i64 0, .int .i64 0, .int .i64 0, .int .i64 0, .int .i64 0, .int .i64 0, .int .i64 0, .int .i64 0, .int .i64 0, .int .i64 0, .int .i64 0, .int .i64 0, .int .i64 0, .int .i64 0, .int .i64 0, .int .i64 0, .int .i64 0] 46)
      have hb2 := hb1.alloc hb1.size (.cells #[.int .i64 0, .int .i64 0, .int .i64 0, .int .i64 0, .int .i64 0, .int .i64 0, .int .i64 0, .int .i64 0, .int .i64 0, .int .i64 0, .int .i64 0, .int .i64 0, .int .i64 0, .int .i64 0, .int .i64 0, .int .i64 0, .int .i64 0] 46)
      have hz2 := hb1.size
      go_simp
      refine hK _ _ ⟨hb2, ?_⟩
      clear hK K hx hl1 hb1
      generalize W1.alloc (.cells #[.int .i64 0, .int .i64 0, .int .i64 0, .int .i64 0, .int .i64 0, .int .i64 0, .int .i64 0, .int .i64 0, .int .i64 0, .int .i64 0, .int .i64 0, .int .i64 0, .int .i64 0, .int .i64 0, .int .i64 0, .int .i64 0, .int .i64 0] 46) = W2 at *
      generalize W1.heap.size = B2 at *
      refine wpAnyH_all (rs := [10]) (by decide +kernel) (by simp) ?_
      intro x hx
      obtain rfl := List.mem_singleton.1 hx
      refine wpOp_go' rfl rfl (fun K hK => ?_)
      refine st_sz8 hk1 rfl _ _ rfl rfl rfl ?_
      rintro W3 hs3 ho3
      have hb3 := hb2.trans ((ho3.below (show w.heap.size ≤ B1 by omega)).mono (Nat.le_refl _))
      have hk8 := hs8 hk2 ho3 (by omega)
      refine hK _ _ ⟨hb3, ?_⟩
      clear hK K hx hk1 hk2 ho3
      refine wpAnyH_all (rs := [11]) (by decide +kernel) (by simp) ?_
      intro x hx
      obtain rfl := List.mem_singleton.1 hx
      refine wpOp_go' rfl rfl (fun K hK => ?_)
      refine st_sz8 hk8 rfl _ _ rfl rfl rfl ?_
      rintro W4 hs4 ho4
      have hb4 := hb3.trans ((ho4.below (show w.heap.size ≤ B2 by omega)).mono (Nat.le_refl _))
      have hk7 := hs8 hs3 ho4 (by omega)
      refine hK _ _ ⟨hb4, ?_⟩
      refine wpAnyH_done (by decide +kernel) ?_ _
      exact ⟨rfl, _, _, _, _, _, _, _, _, _, _, rfl, hk7, hs4, hb4⟩
    · obtain rfl := List.mem_singleton.1 hx
      refine wpOp_go' rfl rfl (fun K hK => ?_)
      have hk1 := Blk.new W0 46 #[.int .i64 0, .int .i64 0, .int .i64 0, .int .i64 0, .int .i64 0, .int .i64 0, .int .i64 0, .int .i64 0, .int .i64 0, .int .i64 0, .int .i64 0, .int .i64 0, .int .i64 0, .int .i64 0, .int .i64 0, .int .i64 0, .int .i64 0]
      have hb1 := hb0.alloc hb0.size (.cells #[.int .i64 0, .int .i64 0, .int .i64 0, .int .i64 0, .int .i64 0, .int .i64 0, .int .i64 0, .int .i64 0, .int .i64 0, .int .i64 0, .int .i64 0, .int .i64 0, .int .i64 0, .int .i64 0, .int .i64 0, .int .i64 0, .int .i64 0] 46)
      have hz1 := hb0.size
      go_simp
      refine hK _ _ ⟨hb1, ?_⟩
      clear hK K hx
      generalize W0.alloc (.cells #[.int .i64 0, .int .i64 0, .int .i64 0, .int .i64 0, .int .i64 0, .int .i64 0, .int .i64 0, .int .i64 0, .int .i64 0, .int .i64 0, .int .i64 0, .int .i64 0, .int .i64 0, .int .i64 0, .int .i64 0, .int .i64 0, .int .i64 0] 46) = W1 at *
      generalize W0.heap.size = B1 at *
      refine wpAnyH_all (rs := [8]) (by decide +kernel) (by simp) ?_
      intro x hx
      obtain rfl := List.mem_singleton.1 hx
      refine wpOp_go' rfl rfl (fun K hK => ?_)
      have hl1 := hk1.lt
      have hne : B1 ≠ W1.heap.size := by omega
      have hk2 := Blk.new W1 46 #[.int .i64 0, .int .i64 0, .int .i64 0, .int .i64 0, .int .i64 0, .int .i64 0, .int .i64 0, .int .i64 0, .int .i64 0, .int .i64 0, .int .i64 0, .int .i64 0, .int .i64 0, .int .i64 0, .int .i64 0, .int .i64 0, .int .i64 0]
      have hk1 := hk1.alloc (.cells #[.int .i64 0, .int .i64 0, .int .i64 0, .int .i64 0, .int .i64 0, .int .i64 0, .int .i64 0, .int .i64 0, .int .i64 0, .int .i64 0, .int .i64 0, .int .i64 0, .int .i64 0, .int .i64 0, .int .i64 0, .int .i64 0, .int .i64 0] 46)
      have hb2 := hb1.alloc hb1.size (.cells #[.int .i64 0, .int .i64 0, .int .i64 0, .int .i64 0, .int .i64 0, .int .i64 0, .int .i64 0, .int .i64 0, .int .i64 0, .int .i64 0, .int .i64 0, .int .i64 0, .int .i64 0, .int .i64 0, .int .i64 0, .int .i64 0, .int .i64 0] 46)
      have hz2 := hb1.size
      go_simp
      refine hK _ _ ⟨hb2, ?_⟩
      clear hK K hx hl1 hb1
      generalize W1.alloc (.cells #[.int .i64 0, .int .i64 0, .int .i64 0, .int .i64 0, .int .i64 0, .int .i64 0, .int .i64 0, .int .i64 0, .int .i64 0, .int .i64 0, .int .i64 0, .int .i64 0, .int .i64 0, .int .i64 0, .int .i64 0, .int .i64 0, .int .i64 0] 46) = W2 at *
      generalize W1.heap.size = B2 at *
      refine wpAnyH_all (rs := [10]) (by decide +kernel) (by simp) ?_
      intro x hx
      obtain rfl := List.mem_singleton.1 hx
      refine wpOp_go' rfl rfl (fun K hK => ?_)
      refine st_sz8 hk2 rfl _ _ rfl rfl rfl ?_
      rintro W3 hs3 ho3
      have hb3 := hb2.trans ((ho3.below (show w.heap.size ≤ B2 by omega)).mono (Nat.le_refl _))
      have hk8 := hs8 hk1 ho3 (by omega)
      refine hK _ _ ⟨hb3, ?_⟩
      clear hK K hx hk1 hk2 ho3
      refine wpAnyH_all (rs := [11]) (by decide +kernel) (by simp) ?_
      intro x hx
      obtain rfl := List.mem_singleton.1 hx
      refine wpOp_go' rfl rfl (fun K hK => ?_)
      refine st_sz8 hk8 rfl _ _ rfl rfl rfl ?_
      rintro W4 hs4 ho4
      have hb4 := hb3.trans ((ho4.below (show w.heap.size ≤ B1 by omega)).mono (Nat.le_refl _))
      have hk7 := hs8 hs3 ho4 (by omega)
      refine hK _ _ ⟨hb4, ?_⟩
      refine wpAnyH_done (by decide +kernel) ?_ _
      exact ⟨rfl, _, _, _, _, _, _, _, _, _, _, rfl, hk7, hs4, hb4⟩
  rintro _ _ w1 ⟨rfl, b7, b8, y9, y10, y11, y12, y13, y14, y15, y16, rfl, bE1, bE2, hB1⟩
  have hbh1 := hbh.below hB1 hbh.lt
  have hl1 := bE1.lt
  have hl2 := bE2.lt
  have hl3 := hbh1.lt
  clear r1 r2 hbs hbh hB0
  have HN1 := Lib.hid (fun w => needs_any E1 h hv1.out HH.out w)
  have HN2 := Lib.hid (fun w => needs_any E2 h hv2.out HH.out w)
  have HS1 := Lib.hid (fun w => sum_any (Pl.nd E1 h) hN1.out w)
  have HS2 := Lib.hid (fun w => sum_any (Pl.nd E2 h) hN2.out w)
  go_wp2
  refine Code.wp_mono (Q := fun e' a' w' => e' = .normal ∧ ∃ y17 y18 y19 y20 y21 y22 y23 y24 y25 y26 y27 y28 y29 y30 y31 y32, a' = { tmps := #[.int .i64 i, .int .i64 j, .pointer (some ⟨bs, 0, none⟩), .pointer (some ⟨bh, 0, none⟩), undef, undef, .int .i64 R, .pointer (some ⟨b7, 0, none⟩), .pointer (some ⟨b8, 0, none⟩), y9, y10, y11, y12, y13, y14, y15, y16, y17, y18, y19, y20, y21, y22, y23, y24, y25, y26, y27, y28, y29, y30, y31, y32], defers := [] } ∧ Below w.heap.size w w') ?goon2 ?region2
  case region2 =>
    refine wp_region_held (S := fun W => Below w1.heap.size w1 W) (by kernel_rfl) ?_
    change wpAnyH _ _ _ _ _ _ _ _ (World.drew _)
    have hb0 := (Below.refl w1.heap.size w1).drew
    obtain ⟨W0, hW0⟩ : ∃ W0, World.drew w1 = W0 := ⟨_, rfl⟩
    rw [hW0] at hb0 ⊢
    clear hW0
    have hT7 : ∀ W, Below w1.heap.size w1 W → W.rangeAt b7 0 (szA E1).toList := fun W hb => (bE1.below hb hl1).range
    have hT8 : ∀ W, Below w1.heap.size w1 W → W.rangeAt b8 0 (szA E2).toList := fun W hb => (bE2.below hb hl2).range
    have hTh : ∀ W, Below w1.heap.size w1 W → W.rangeAt bh 0 (hdA h).toList := fun W hb => (hbh1.below hb hl3).range
    have hTc : ∀ W, Below w1.heap.size w1 W → W.cell? ⟨b7, 0, none⟩ = some (.int .i64 E1.code) := fun W hb => (bE1.below hb hl1).code
    have hTd : ∀ W, Below w1.heap.size w1 W → W.cell? ⟨b8, 0, none⟩ = some (.int .i64 E2.code) := fun W hb => (bE2.below hb hl2).code
    refine wpAnyH_take (i := 0) (v := .agg (szA E1)) rfl (by kernel_rfl) (by decide +kernel) (by decide +kernel) (fun _ _ _ h => by cases h.1) (yld_mid hT7 (by kernel_rfl) _ rfl rfl) hb0 ?_
    refine wpAnyH_take (i := 1) (v := .agg (hdA h)) rfl (by kernel_rfl) (by decide +kernel) (by decide +kernel) (fun _ _ _ h => by cases h.1) (yld_midh hTh (by kernel_rfl) _ rfl rfl) hb0 ?_
    refine wpAnyH_take (i := 4) (v := .agg (szA E2)) rfl (by kernel_rfl) (by decide +kernel) (by decide +kernel) (fun _ _ _ h => by cases h.1) (yld_mid hT8 (by kernel_rfl) _ rfl rfl) hb0 ?_
    refine wpAnyH_take (i := 5) (v := .agg (hdA h)) rfl (by kernel_rfl) (by decide +kernel) (by decide +kernel) (fun _ _ _ h => by cases h.1) (yld_midh hTh (by kernel_rfl) _ rfl rfl) hb0 ?_
    refine wpAnyH_take (i := 9) (v := ?_) rfl (by kernel_rfl) (by decide +kernel) (by decide +kernel) (fun _ _ _ h => by cases h.1) (Or.inl ⟨by rfl, ?_⟩) hb0 ?_
    rotate_left
    · intro w' hS; first | (go_simp; done) | (go_simp; with_reducible rfl)
    refine wpAnyH_take (i := 10) (v := ?_) rfl (by kernel_rfl) (by decide +kernel) (by decide +kernel) (fun _ _ _ h => by cases h.1) (Or.inl ⟨by rfl, ?_⟩) hb0 ?_
    rotate_left
    · intro w' hS; have q := hTc _ hS; first | (go_simp; done) | (go_simp; with_reducible rfl)
    refine wpAnyH_take (i := 11) (v := ?_) rfl (by kernel_rfl) (by decide +kernel) (by decide +kernel) (fun _ _ _ h => by cases h.1) (Or.inl ⟨by rfl, ?_⟩) hb0 ?_
    rotate_left
    · intro w' hS; first | (go_simp; done) | (go_simp; with_reducible rfl)
    refine wpAnyH_take (i := 12) (v := ?_) rfl (by kernel_rfl) (by decide +kernel) (by decide +kernel) (fun _ _ _ h => by cases h.1) (Or.inl ⟨by rfl, ?_⟩) hb0 ?_
    rotate_left
    · intro w' hS; have q := hTd _ hS; first | (go_simp; done) | (go_simp; with_reducible rfl)
    clear hT7 hT8 hTh hTc hTd
    refine wpAnyH_all (rs := [2]) (by decide +kernel) (by simp) ?_
    intro x hx
    obtain rfl := List.mem_singleton.1 hx
    refine wpOp_go' rfl rfl (fun K hK => ?_)
    go_simp
    refine (HN1.out _).mono ?_
    rintro e w2 ⟨rfl, hb2⟩
    have hb3 := hb0.trans (hb2.mono hb0.size)
    refine hK _ _ ⟨hb3, ?_⟩
    clear hK K hx
    refine wpAnyH_all (rs := [3]) (by decide +kernel) (by simp) ?_
    intro x hx
    obtain rfl := List.mem_singleton.1 hx
    refine wpOp_go' rfl rfl (fun K hK => ?_)
    go_simp
    refine (HS1.out _).mono ?_
    rintro e w3 ⟨rfl, hb4⟩
    have hb5 := hb3.trans (hb4.mono hb3.size)
    refine hK _ _ ⟨hb5, ?_⟩
    clear hK K hx
    refine wpAnyH_all (rs := [6]) (by decide +kernel) (by simp) ?_
    intro x hx
    obtain rfl := List.mem_singleton.1 hx
    refine wpOp_go' rfl rfl (fun K hK => ?_)
    go_simp
    refine (HN2.out _).mono ?_
    rintro e w4 ⟨rfl, hb6⟩
    have hb7 := hb5.trans (hb6.mono hb5.size)
    refine hK _ _ ⟨hb7, ?_⟩
    clear hK K hx
    refine wpAnyH_all (rs := [7]) (by decide +kernel) (by simp) ?_
    intro x hx
    obtain rfl := List.mem_singleton.1 hx
    refine wpOp_go' rfl rfl (fun K hK => ?_)
    go_simp
    refine (HS2.out _).mono ?_
    rintro e w5 ⟨rfl, hb8⟩
    have hb9 := hb7.trans (hb8.mono hb7.size)
    refine hK _ _ ⟨hb9, ?_⟩
    clear hK K hx
    refine wpAnyH_all (rs := [8]) (by decide +kernel) (by simp) ?_
    intro x hx
    obtain rfl := List.mem_singleton.1 hx
    refine wpOp_go' rfl rfl (fun K hK => ?_)
    go_simp
    refine (cmp_any _ _ _).mono ?_
    rintro e w' ⟨rfl, hw'⟩
    obtain rfl : w5 = w' := hw'.symm
    refine hK _ _ ⟨hb9, ?_⟩
    clear hK K hx
    refine wpAnyH_all (rs := [13]) (by decide +kernel) (by simp) ?_
    intro x hx
    obtain rfl := List.mem_singleton.1 hx
    refine wpOp_go' rfl rfl (fun K hK => ?_)
    go_simp
    refine (cmp_any _ _ _).mono ?_
    rintro e w' ⟨rfl, hw'⟩
    obtain rfl : w5 = w' := hw'.symm
    refine hK _ _ ⟨hb9, ?_⟩
    clear hK K hx
    generalize hC1 : Pl.cmpI (Pl.sumK (Pl.nd E1 h) 5) (Pl.sumK (Pl.nd E2 h) 5) = C1 at *
    generalize hC2 : Pl.cmpI E1.code E2.code = C2 at *
    refine wpAnyH_all (rs := [14]) (by decide +kernel) (by simp) ?_
    intro x hx
    obtain rfl := List.mem_singleton.1 hx
    refine wpOp_go' rfl rfl (fun K hK => ?_)
    have bL := Blk.new w5 3 #[.int .i64 C1, .int .i64 C2]
    have hbA := hb9.alloc hb9.size (.cells #[.int .i64 C1, .int .i64 C2] 3)
    go_simp
    refine hK _ _ ⟨hbA, ?_⟩
    clear hK K hx
    have HOR := Lib.hid (or_any _ C1 C2 _ (bL.cell 0) (bL.cell 1))
    clear bL
    refine wpAnyH_all (rs := [15]) (by decide +kernel) (by simp) ?_
    intro x hx
    obtain rfl := List.mem_singleton.1 hx
    refine wpOp_go' rfl rfl (fun K hK => ?_)
    go_simp
    refine HOR.out.mono ?_
    rintro e w' ⟨rfl, rfl⟩
    refine hK _ _ ⟨hbA, ?_⟩
    clear hK K hx
    refine wpAnyH_take (i := 16) (v := ?_) rfl (by kernel_rfl) (by decide +kernel) (by decide +kernel) (fun _ _ _ h => by cases h.1) (Or.inl ⟨by rfl, ?_⟩) hbA ?_
    rotate_left
    · intro w' hS; first | (go_simp; done) | (go_simp; with_reducible rfl)
    refine wpAnyH_done (by decide +kernel) ?_ _
    have hRR : R = Pl.orI C1 C2 := by rw [HR.out]
    rw [hRR]
    exact ⟨rfl, _, _, _, _, _, _, _, _, _, _, _, _, _, _, _, _, rfl, hB1.trans (hbA.mono hB1.size)⟩
  rintro _ _ w2 ⟨rfl, y17, y18, y19, y20, y21, y22, y23, y24, y25, y26, y27, y28, y29, y30, y31, y32, rfl, hB2⟩
  go_wp2
  go_ret
  exact ⟨rfl, hB2⟩
end Go.Proofs.YtghbipipehglfaaDoor
