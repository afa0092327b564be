/- lightestFirst's comparison. -/
import Derived.Test.YtlfbfdhdkccaeaaGreatF2
import Derived.Shelf.SlSortCmp.NoneTotal
import Derived.OrdersHeld
import Derived.RegionTactic
namespace Go.Proofs.YtlfbfdhdkccaeaaGreat
open Go.RowKit Go.Shelf Go.Sort Go.Lib

set_option maxHeartbeats 400000 in
theorem cmp_any (a b : Int) (w : World) : Calls Tryz.prog 33 #[.int .i64 a, .int .i64 b] w fun e w' => e = .returned (.int .i64 (Pl.cmpI a b)) ∧ w' = w := by
  rcases Int.lt_trichotomy a b with h | h | h
  · have H := Lib.hid (Pl.cmpI_lt h)
    go_enter Tryz.func33, Tryz.ntmps33
    go_wp2
    go_ret
    exact ⟨by rw [H.out]; rfl, rfl⟩
  · have H := Lib.hid (Pl.cmpI_eq h)
    have h1 : ¬ a < b := by omega
    have h2 : ¬ b < a := by omega
    clear h
    go_enter Tryz.func33, Tryz.ntmps33
    go_wp2
    go_ret
    exact ⟨by rw [H.out]; rfl, rfl⟩
  · have H := Lib.hid (Pl.cmpI_gt h)
    have h1 : ¬ a < b := by omega
    go_enter Tryz.func33, Tryz.ntmps33
    go_wp2
    go_ret
    exact ⟨by rw [H.out]; rfl, rfl⟩

set_option maxHeartbeats 800000 in
theorem or_any (g : Nat) (a b c : Int) (w : World) (h0 : w.cell? ⟨g, 0, none⟩ = some (.int .i64 a)) (h1 : w.cell? ⟨g, 1, none⟩ = some (.int .i64 b)) (h2 : w.cell? ⟨g, 2, none⟩ = some (.int .i64 c)) :
    Calls Tryz.prog 67 #[.slice (some ⟨g, 0, none⟩) 3 3] w fun e w' => e = .returned (.int .i64 (Pl.orI a (Pl.orI b c))) ∧ w' = w := by
  go_enter Tryz.func67, Tryz.ntmps67
  go_wp2
  go_loop [8] (fun i => ∃ k : Nat, k ≤ 3 ∧ i = .int .i64 k ∧ (1 ≤ k → a = 0) ∧ (2 ≤ k → b = 0) ∧ (3 ≤ k → c = 0)) (fun i => 3 - (intOf i).toNat)
  case atStart => exact ⟨0, by omega, rfl, fun h => absurd h (by omega), fun h => absurd h (by omega), fun h => absurd h (by omega)⟩
  case round =>
    obtain ⟨k, hk, rfl, ha, hb, hc⟩ := hrel
    have HA := Lib.hid ha
    have HB := Lib.hid hb
    have HC := Lib.hid hc
    clear ha hb hc
    have hk3 : k = 0 ∨ k = 1 ∨ k = 2 ∨ k = 3 := by omega
    rcases hk3 with rfl | rfl | rfl | rfl
    · by_cases hz : a = 0
      · have hz1 : (a != 0) = false := by simp [hz]
        have HZ := Lib.hid hz
        clear hz
        go_wp2
        go_round
        case rel => exact ⟨1, by omega, by simp, fun _ => HZ.out, fun h => absurd h (by omega), fun h => absurd h (by omega)⟩
        case measure => simp [intOf]
      · have hz1 : (a != 0) = true := by simp [hz]
        have HZ := Lib.hid hz
        clear hz
        go_wp2
        go_ret
        exact ⟨by unfold Pl.orI; rw [if_neg HZ.out]; rfl, rfl⟩
    · by_cases hz : b = 0
      · have hz1 : (b != 0) = false := by simp [hz]
        have HZ := Lib.hid hz
        clear hz
        go_wp2
        go_round
        case rel => exact ⟨2, by omega, by simp, fun _ => HA.out (by omega), fun _ => HZ.out, fun h => absurd h (by omega)⟩
        case measure => simp [intOf]
      · have hz1 : (b != 0) = true := by simp [hz]
        have HZ := Lib.hid hz
        clear hz
        go_wp2
        go_ret
        exact ⟨by unfold Pl.orI; rw [if_pos (HA.out (by omega)), if_neg HZ.out]; rfl, rfl⟩
    · by_cases hz : c = 0
      · have hz1 : (c != 0) = false := by simp [hz]
        have HZ := Lib.hid hz
        clear hz
        go_wp2
        go_round
        case rel => exact ⟨3, by omega, by simp, fun _ => HA.out (by omega), fun _ => HB.out (by omega), fun _ => HZ.out⟩
        case measure => simp [intOf]
      · have hz1 : (c != 0) = true := by simp [hz]
        have HZ := Lib.hid hz
        clear hz
        go_wp2
        go_ret
        exact ⟨by unfold Pl.orI; rw [if_pos (HA.out (by omega)), if_pos (HB.out (by omega))]; rfl, rfl⟩
    · go_wp2
      go_ret
      exact ⟨by unfold Pl.orI; rw [if_pos (HA.out (by omega)), if_pos (HB.out (by omega)), HC.out (by omega)]; rfl, rfl⟩

theorem wp_region_tail {P : Program} {id : Nat} {Q : Exit → Act → World → Prop} {a : Act} {w : World} {l : List Oper} (n : Nat) (hm : P.follows .mixedOrders = true) (hB : Region.lexTailB .any l.toArray n = true)
    (h : ∀ W : World, W = w.drew → wpStill P l.toArray W (fun a' => wpList P l.toArray Q (l.drop n) a' W) (l.take n) a) : (Code.region id l.toArray true).wp P Q a w :=
  wp_region_still_tail n hm hB (h _ rfl)
theorem wpOp_go {P : Program} {ops : Array Oper} {Q : Exit → Act → World → Prop} {i : Nat} {o : Oper} {K : Act → World → Prop} {a : Act} {w : World} (ho : ops[i]? = some o) (hw : Region.wanted o (yielded ops a.tmps) = true)
    (h : ∀ K' : Act → World → Prop, (∀ a w, K a w → K' a w) → Oper.wp P o a w K' Q) : wpOp P ops Q i K a w :=
  wpOp_step ho fun K' hK' => by rw [if_pos hw]; exact h K' hK'
/-- nothing old has turned, and draws are not given back -/
def Gw (w w' : World) : Prop := Below w.heap.size w w' ∧ w.drawn ≤ w'.drawn
theorem Gw.refl (w : World) : Gw w w := ⟨Below.refl _ _, Nat.le_refl _⟩
theorem Gw.alloc {w w' : World} (h : Gw w w') (o : Obj) : Gw w (w'.alloc o) := ⟨h.1.alloc h.1.size o, h.2⟩
theorem Gw.drew {w w' : World} (h : Gw w w') : Gw w w'.drew := ⟨h.1.drew, Nat.le_succ_of_le h.2⟩
theorem Gw.setRow {w w' : World} (h : Gw w w') {g : Nat} (hg : w.heap.size ≤ g) (cs : Array Value) : Gw w (w'.setRow g cs) := ⟨h.1.trans ((Only.setRow g w' cs).below hg), h.2⟩
theorem Gw.grow {w w' : World} (h : Gw w w') : ∃ q os, w' = grow (w.drewN q) os := by
  obtain ⟨⟨h1, h2, h3, h4, h5⟩, h6⟩ := h
  refine ⟨w'.drawn - w.drawn, w'.heap.extract w.heap.size w'.heap.size, ?_⟩
  obtain ⟨hp, tp, dr, os, out⟩ := w
  obtain ⟨hp', tp', dr', os', out'⟩ := w'
  simp only [Sort.grow, World.drewN] at *
  subst h1 h2 h3
  congr 1
  · apply Array.ext
    · simp; omega
    · intro i hi hi2
      by_cases c : i < hp.size
      · have := h5 i c
        rw [Array.getElem?_eq_getElem hi, Array.getElem?_eq_getElem c] at this
        rw [Array.getElem_append_left c]
        exact Option.some.inj this
      · rw [Array.getElem_append_right (by omega)]
        simp
        congr 1
        omega
  · omega

theorem bt_cells {W : World} {b o : Nat} {t : Pl.Bt} (h : W.rangeAt b o (btA t).toList) : W.cell? ⟨b, o, none⟩ = some (.int .i64 t.num) ∧ W.cell? ⟨b, o + 1, none⟩ = some (.int .i64 t.dark) ∧ W.cell? ⟨b, o + 2, none⟩ = some (.int .i64 t.grain) ∧
    W.cell? ⟨b, o + 3, none⟩ = some (.int .i64 t.h0) ∧ W.cell? ⟨b, o + 4, none⟩ = some (.int .i64 t.h1) ∧ W.cell? ⟨b, o + 5, none⟩ = some (.int .i64 t.h2) ∧ W.cell? ⟨b, o + 6, none⟩ = some (.int .i64 t.h3) := ⟨h 0 _ rfl, h 1 _ rfl, h 2 _ rfl, h 3 _ rfl, h 4 _ rfl, h 5 _ rfl, h 6 _ rfl⟩
abbrev zp : Array Value := #[.int .i64 0, .int .i64 0, .int .i64 0, .int .i64 0, .int .i64 0, .int .i64 0, .int .i64 0]
theorem bt_all (t : Pl.Bt) : (btA t).all (·.oneCell') = true := by simp [Value.oneCell']
theorem setRow_same {W : World} {g : Nat} {t : TypeId} {cs0 cs : Array Value} (h : Blk W g t cs0) : Blk (W.setRow g cs) g t cs := by
  unfold Blk at *
  simp [World.setRow, Array.getElem?_modify, h]

set_option maxRecDepth 100000 in
set_option maxHeartbeats 4000000 in
theorem low_any (bx bz oz n c : Nat) (l : List Pl.Bt) (hn : l.length = n) (i j : Nat) (hi : i < n) (hj : j < n) (w : World) (hx : w.cell? ⟨bx, 0, none⟩ = some (.slice (some ⟨bz, oz, none⟩) n c)) (hbx : bx < w.heap.size) (hbz : bz < w.heap.size)
    (hc : ∀ j, j < l.length → w.rangeAt bz (oz + j * 7) (btA (l.getD j Pl.zb)).toList) :
    Calls Tryz.prog 66 #[.int .i64 i, .int .i64 j, .pointer (some ⟨bx, 0, none⟩)] w fun e w' => e = .returned (.int .i64 (Pl.fbI (Pl.at' l i) (Pl.at' l j))) ∧ Gw w w' := by
  have g1 := bts_cells hbz hc (Below.refl _ _) (i := i) (by omega)
  have g2 := bts_cells hbz hc (Below.refl _ _) (i := j) (by omega)
  clear hc hn
  have hiI : (i : Int) < (n : Int) := by omega
  have hjI : (j : Int) < (n : Int) := by omega
  generalize Pl.at' l i = E at *
  generalize Pl.at' l j = F at *
  go_enter Tryz.func66, Tryz.ntmps66
  go_wp2
  have HB : Hid (Below w.heap.size w w.drew) := Lib.hid (Below.refl _ _).drew
  refine Code.wp_mono (Q := fun e' a' w' => e' = .normal ∧ ∃ y8 y9 y10 y11 y12 y13 y14 y15 b6 b7, a' = { tmps := #[.int .i64 i, .int .i64 j, .pointer (some ⟨bx, 0, none⟩), undef, undef, .int .i64 0, .pointer (some ⟨b6, 0, none⟩), .pointer (some ⟨b7, 0, none⟩), y8, y9, y10, y11, y12, y13, y14, y15, undef, undef, undef, undef, undef, undef, undef, undef, undef, undef, undef, undef, undef, undef, undef, undef, undef], defers := [] } ∧ Blk w' b6 48 (btA E) ∧ Blk w' b7 48 (btA F) ∧ Gw w w') ?goon ?region
  case goon =>
    rintro _ _ w3 ⟨rfl, y8, y9, y10, y11, y12, y13, y14, y15, b6, b7, rfl, k6, k7, hG⟩
    clear g1 g2 hx
    have q0 := k6.cell 0
    have q1 := k6.cell 1
    have q2 := k6.cell 2
    have r0 := k7.cell 0
    have r1 := k7.cell 1
    have r2 := k7.cell 2
    have HG := Lib.hid hG
    clear hG HB
    go_wp2
    refine wp_region_tail 15 (by kernel_rfl) (by kernel_rfl) fun W hW => ?_
    have f0 : W.cell? ⟨b6, 0, none⟩ = some (.int .i64 E.num) := by rw [hW]; exact q0
    have f1 : W.cell? ⟨b6, 1, none⟩ = some (.int .i64 E.dark) := by rw [hW]; exact q1
    have f2 : W.cell? ⟨b6, 2, none⟩ = some (.int .i64 E.grain) := by rw [hW]; exact q2
    have f3 : W.cell? ⟨b7, 0, none⟩ = some (.int .i64 F.num) := by rw [hW]; exact r0
    have f4 : W.cell? ⟨b7, 1, none⟩ = some (.int .i64 F.dark) := by rw [hW]; exact r1
    have f5 : W.cell? ⟨b7, 2, none⟩ = some (.int .i64 F.grain) := by rw [hW]; exact r2
    have HG2 : Hid (Gw w W) := Lib.hid (by rw [hW]; exact HG.out.drew)
    clear hW q0 q1 q2 r0 r1 r2
    simp only [List.take_succ_cons, List.take_zero, List.drop_succ_cons, List.drop_zero]
    iterate 4 still_step
    still_call (cmp_any _ _ _)
    iterate 4 still_step
    still_call (cmp_any _ _ _)
    iterate 4 still_step
    still_call (cmp_any _ _ _)
    refine wpStill_nil ?_
    go_wp2_with fail
    refine (or_any W.heap.size (Pl.cmpI E.dark F.dark) (Pl.cmpI E.grain F.grain) (Pl.cmpI E.num F.num) _ (by go_simp) (by go_simp) (by go_simp)).mono ?_
    rintro e w' ⟨rfl, rfl⟩
    go_wp2
    go_ret
    exact ⟨rfl, HG2.out.alloc _⟩
  case region =>
    refine wp_region_held (S := fun W => Below w.heap.size w W) (by kernel_rfl) ?_
    change wpAnyH _ _ _ _ _ _ _ _ (World.drew _)
    refine wpAnyH_take (i := 0) (v := ?_) rfl (by kernel_rfl) (by decide +kernel) (by decide +kernel) (fun _ _ _ h => by cases h.1) (Or.inl ⟨by rfl, ?_⟩) HB.out ?_
    rotate_left
    · intro w' hS; have hx' : w'.cell? ⟨bx, 0, none⟩ = _ := (hS.cell (p := ⟨bx, 0, none⟩) hbx).trans hx; first | (go_simp; done) | (go_simp; with_reducible rfl)
    refine wpAnyH_take (i := 1) (v := ?_) rfl (by kernel_rfl) (by decide +kernel) (by decide +kernel) (fun _ _ _ h => by cases h.1) (Or.inl ⟨by rfl, ?_⟩) HB.out ?_
    rotate_left
    · intro w' _; first | (go_simp; done) | (go_simp; with_reducible rfl)
    refine wpAnyH_take (i := 2) (v := ?_) rfl (by kernel_rfl) (by decide +kernel) (by decide +kernel) (fun _ _ _ h => by cases h.1) (Or.inl ⟨by rfl, ?_⟩) HB.out ?_
    rotate_left
    · intro w' _; first | (go_simp; done) | (go_simp; with_reducible rfl)
    refine wpAnyH_take (i := 3) (v := ?_) rfl (by kernel_rfl) (by decide +kernel) (by decide +kernel) (fun _ _ _ h => by cases h.1) (Or.inl ⟨by rfl, ?_⟩) HB.out ?_
    rotate_left
    · intro w' hS; obtain ⟨q0, q1, q2, q3, q4, q5, q6⟩ := bt_cells (rangeAt_below g1 hbz hS); first | (go_simp; done) | (go_simp; with_reducible rfl)
    refine wpAnyH_take (i := 4) (v := ?_) rfl (by kernel_rfl) (by decide +kernel) (by decide +kernel) (fun _ _ _ h => by cases h.1) (Or.inl ⟨by rfl, ?_⟩) HB.out ?_
    rotate_left
    · intro w' hS; have hx' : w'.cell? ⟨bx, 0, none⟩ = _ := (hS.cell (p := ⟨bx, 0, none⟩) hbx).trans hx; first | (go_simp; done) | (go_simp; with_reducible rfl)
    refine wpAnyH_take (i := 5) (v := ?_) rfl (by kernel_rfl) (by decide +kernel) (by decide +kernel) (fun _ _ _ h => by cases h.1) (Or.inl ⟨by rfl, ?_⟩) HB.out ?_
    rotate_left
    · intro w' _; first | (go_simp; done) | (go_simp; with_reducible rfl)
    refine wpAnyH_take (i := 6) (v := ?_) rfl (by kernel_rfl) (by decide +kernel) (by decide +kernel) (fun _ _ _ h => by cases h.1) (Or.inl ⟨by rfl, ?_⟩) HB.out ?_
    rotate_left
    · intro w' _; first | (go_simp; done) | (go_simp; with_reducible rfl)
    refine wpAnyH_take (i := 7) (v := ?_) rfl (by kernel_rfl) (by decide +kernel) (by decide +kernel) (fun _ _ _ h => by cases h.1) (Or.inl ⟨by rfl, ?_⟩) HB.out ?_
    rotate_left
    · intro w' hS; obtain ⟨q0, q1, q2, q3, q4, q5, q6⟩ := bt_cells (rangeAt_below g2 hbz hS); first | (go_simp; done) | (go_simp; with_reducible rfl)
    have hBA := HB.out.alloc (Nat.le_refl _) (.cells zp 48)
    have hGG : Gw w ((w.alloc (.cells zp 48)).alloc (.cells zp 48)).drew := (((Gw.refl w).alloc _).alloc _).drew
    have bA : Blk ((w.alloc (.cells zp 48)).alloc (.cells zp 48)).drew w.heap.size 48 zp := ((Blk.new w 48 zp).alloc _).drew
    have bB : Blk ((w.alloc (.cells zp 48)).alloc (.cells zp 48)).drew (w.heap.size + 1) 48 zp := by
      have := Blk.new (w.alloc (.cells zp 48)) 48 zp
      simp only [World.size_alloc] at this
      exact this.drew
    have HGG := Lib.hid hGG
    have HbA := Lib.hid bA
    have HbB := Lib.hid bB
    clear hGG bA bB g1 g2 hx
    refine wpAnyH_all (rs := [8, 9]) (by decide +kernel) (by simp) ?_
    intro i0 hi0
    simp only [List.mem_cons, List.not_mem_nil, or_false] at hi0
    rcases hi0 with rfl | rfl
    · refine wpOp_go rfl rfl (fun K hK => ?_)
      go_simp
      refine hK _ _ ⟨hBA, ?_⟩
      clear hK K
      refine wpAnyH_all (rs := [9]) (by decide +kernel) (by simp) ?_
      intro i0 hi0
      obtain rfl := List.mem_singleton.1 hi0
      refine wpOp_go rfl rfl (fun K hK => ?_)
      go_simp
      refine hK _ _ ⟨HGG.out.1, ?_⟩
      clear hK K
      have hGG := HGG.out
      have bX := HbA.out
      have bY := HbB.out
      generalize ((w.alloc (.cells zp 48)).alloc (.cells zp 48)).drew = WB at *
      have hX : Only (w.heap.size) WB (WB.setRow (w.heap.size) (btA E)) := Only.setRow _ _ _
      have hY : Only (w.heap.size + 1) (WB.setRow (w.heap.size) (btA E)) ((WB.setRow (w.heap.size) (btA E)).setRow (w.heap.size + 1) (btA F)) := Only.setRow _ _ _
      have bY1 : Blk _ _ _ _ := (hX.block (w.heap.size + 1) (by omega)).trans bY
      have bX1 : Blk (WB.setRow (w.heap.size) (btA E)) (w.heap.size) 48 (btA E) := setRow_same bX
      have bX2 : Blk _ _ _ _ := (hY.block (w.heap.size) (by omega)).trans bX1
      have bY2 : Blk ((WB.setRow (w.heap.size) (btA E)).setRow (w.heap.size + 1) (btA F)) (w.heap.size + 1) 48 (btA F) := setRow_same bY1
      have hG1 := hGG.setRow (g := w.heap.size) (by omega) (btA E)
      have hG2 := hG1.setRow (g := w.heap.size + 1) (by omega) (btA F)
      refine wpAnyH_all (rs := [10]) (by decide +kernel) (by simp) ?_
      intro i0 hi0
      obtain rfl := List.mem_singleton.1 hi0
      refine wpOp_go rfl rfl (fun K hK => ?_)
      refine wp_store_row 48 (.tmp 6) (.tmp 11) rfl (w.heap.size) (btA E) rfl rfl 48 zp bX info25 rfl (bt_all _) (hK _ _ ⟨hG1.1, ?_⟩)
      clear hK K
      refine wpAnyH_all (rs := [11]) (by decide +kernel) (by simp) ?_
      intro i0 hi0
      obtain rfl := List.mem_singleton.1 hi0
      refine wpOp_go rfl rfl (fun K hK => ?_)
      refine wp_store_row 48 (.tmp 7) (.tmp 15) rfl (w.heap.size + 1) (btA F) rfl rfl 48 zp bY1 info25 rfl (bt_all _) (hK _ _ ⟨hG2.1, ?_⟩)
      clear hK K
      refine wpAnyH_done (by decide +kernel) ?_ _
      exact ⟨rfl, _, _, _, _, _, _, _, _, _, _, rfl, bX2, bY2, hG2⟩
    · refine wpOp_go rfl rfl (fun K hK => ?_)
      go_simp
      refine hK _ _ ⟨hBA, ?_⟩
      clear hK K
      refine wpAnyH_all (rs := [8]) (by decide +kernel) (by simp) ?_
      intro i0 hi0
      obtain rfl := List.mem_singleton.1 hi0
      refine wpOp_go rfl rfl (fun K hK => ?_)
      go_simp
      refine hK _ _ ⟨HGG.out.1, ?_⟩
      clear hK K
      have hGG := HGG.out
      have bX := HbB.out
      have bY := HbA.out
      generalize ((w.alloc (.cells zp 48)).alloc (.cells zp 48)).drew = WB at *
      have hX : Only (w.heap.size + 1) WB (WB.setRow (w.heap.size + 1) (btA E)) := Only.setRow _ _ _
      have hY : Only (w.heap.size) (WB.setRow (w.heap.size + 1) (btA E)) ((WB.setRow (w.heap.size + 1) (btA E)).setRow (w.heap.size) (btA F)) := Only.setRow _ _ _
      have bY1 : Blk _ _ _ _ := (hX.block (w.heap.size) (by omega)).trans bY
      have bX1 : Blk (WB.setRow (w.heap.size + 1) (btA E)) (w.heap.size + 1) 48 (btA E) := setRow_same bX
      have bX2 : Blk _ _ _ _ := (hY.block (w.heap.size + 1) (by omega)).trans bX1
      have bY2 : Blk ((WB.setRow (w.heap.size + 1) (btA E)).setRow (w.heap.size) (btA F)) (w.heap.size) 48 (btA F) := setRow_same bY1
      have hG1 := hGG.setRow (g := w.heap.size + 1) (by omega) (btA E)
      have hG2 := hG1.setRow (g := w.heap.size) (by omega) (btA F)
      refine wpAnyH_all (rs := [10]) (by decide +kernel) (by simp) ?_
      intro i0 hi0
      obtain rfl := List.mem_singleton.1 hi0
      refine wpOp_go rfl rfl (fun K hK => ?_)
      refine wp_store_row 48 (.tmp 6) (.tmp 11) rfl (w.heap.size + 1) (btA E) rfl rfl 48 zp bX info25 rfl (bt_all _) (hK _ _ ⟨hG1.1, ?_⟩)
      clear hK K
      refine wpAnyH_all (rs := [11]) (by decide +kernel) (by simp) ?_
      intro i0 hi0
      obtain rfl := List.mem_singleton.1 hi0
      refine wpOp_go rfl rfl (fun K hK => ?_)
      refine wp_store_row 48 (.tmp 7) (.tmp 15) rfl (w.heap.size) (btA F) rfl rfl 48 zp bY1 info25 rfl (bt_all _) (hK _ _ ⟨hG2.1, ?_⟩)
      clear hK K
      refine wpAnyH_done (by decide +kernel) ?_ _
      exact ⟨rfl, _, _, _, _, _, _, _, _, _, _, rfl, bX2, bY2, hG2⟩
end Go.Proofs.YtlfbfdhdkccaeaaGreat

