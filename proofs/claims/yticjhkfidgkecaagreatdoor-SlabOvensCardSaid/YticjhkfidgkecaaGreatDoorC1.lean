import Derived.Test.YticjhkfidgkecaaGreatDoorB1
namespace Go.Proofs.YticjhkfidgkecaaGreatDoor
open Go.RowKit Pl

abbrev e3V (e : E3) : Value := .agg #[.int .i64 e.x, .int .i64 e.y, .int .i64 e.z]
theorem me158 (x y z n : Int) (w : World) : (method 340 158 (.agg #[.int .i64 x, .int .i64 y, .int .i64 z, .int .i64 n]) "pantoscope/slab.extents").run Tryz.prog w = .ok (201, .agg #[.int .i64 x, .int .i64 y, .int .i64 z]) w := by kernel_rfl
theorem me172 (x y z k : Int) (t u : TypeId) (p q : Value) (w : World) : (method 340 172 (.agg #[.int .i64 x, .int .i64 y, .int .i64 z, .int .i64 k, .iface t p, .iface u q]) "pantoscope/slab.extents").run Tryz.prog w = .ok (201, .agg #[.int .i64 x, .int .i64 y, .int .i64 z]) w := by kernel_rfl
theorem me160 (x y z k : Int) (t : TypeId) (p : Value) (w : World) : (method 340 160 (.agg #[.int .i64 x, .int .i64 y, .int .i64 z, .int .i64 k, .iface t p]) "pantoscope/slab.extents").run Tryz.prog w = .ok (201, .agg #[.int .i64 x, .int .i64 y, .int .i64 z]) w := by kernel_rfl
theorem me116 (x y z k : Int) (t : TypeId) (p : Value) (w : World) : (method 340 116 (.agg #[.int .i64 x, .int .i64 y, .int .i64 z, .int .i64 k, .iface t p]) "pantoscope/slab.extents").run Tryz.prog w = .ok (201, .agg #[.int .i64 x, .int .i64 y, .int .i64 z]) w := by kernel_rfl
theorem me174 (x y z k n : Int) (t : TypeId) (p : Value) (w : World) : (method 340 174 (.agg #[.int .i64 x, .int .i64 y, .int .i64 z, .int .i64 k, .iface t p, .int .i64 n]) "pantoscope/slab.extents").run Tryz.prog w = .ok (201, .agg #[.int .i64 x, .int .i64 y, .int .i64 z]) w := by kernel_rfl
theorem me163 (x y z k n : Int) (t : TypeId) (p : Value) (w : World) : (method 340 163 (.agg #[.int .i64 x, .int .i64 y, .int .i64 z, .int .i64 k, .iface t p, .int .i64 n]) "pantoscope/slab.extents").run Tryz.prog w = .ok (201, .agg #[.int .i64 x, .int .i64 y, .int .i64 z]) w := by kernel_rfl
theorem call201 (v : Value) (w : World) : (callFunc 201 #[v]).run Tryz.prog w = .ok (.enter 201 #[v]) w := by kernel_rfl
/-- a block that is made, with these extents -/
def ExtOk (v : Value) (e : E3) : Prop := ∃ t x, v = .iface t x ∧ ∀ w, (method 340 t x "pantoscope/slab.extents").run Tryz.prog w = .ok (201, e3V e) w
set_option maxRecDepth 100000 in
set_option maxHeartbeats 1000000 in
theorem extents_shape (e : E3) (w : World) : Calls Tryz.prog 201 #[e3V e] w fun e' w' => e' = .returned (e3V e) ∧ Below w.heap.size w w' := by
  have hb := (Below.refl w.heap.size w).alloc (Nat.le_refl _) (.cells #[.int .i64 e.x, .int .i64 e.y, .int .i64 e.z] 111)
  have hb2 := hb.alloc hb.size (.cells #[.int .i64 e.x, .int .i64 e.y, .int .i64 e.z] 22)
  have B2 := Blk.new (w.alloc (.cells #[.int .i64 e.x, .int .i64 e.y, .int .i64 e.z] 111)) 22 #[.int .i64 e.x, .int .i64 e.y, .int .i64 e.z]
  rw [show (w.alloc (.cells #[.int .i64 e.x, .int .i64 e.y, .int .i64 e.z] 111)).heap.size = w.heap.size + 1 from Array.size_push _] at B2
  have HB := Lib.hid hb2
  have HB2 := Lib.hid B2
  clear hb hb2 B2
  go_enter Tryz.func201, Tryz.ntmps201
  go_wp2_with fail
  generalize (w.alloc (.cells #[.int .i64 e.x, .int .i64 e.y, .int .i64 e.z] 111)).alloc (.cells #[.int .i64 e.x, .int .i64 e.y, .int .i64 e.z] 22) = W at *
  have r0 : W.cell? ⟨w.heap.size + 1, 0, none⟩ = some (.int .i64 e.x) := (HB2.out.cell 0).trans rfl
  have r1 : W.cell? ⟨w.heap.size + 1, 1, none⟩ = some (.int .i64 e.y) := (HB2.out.cell 1).trans rfl
  have r2 : W.cell? ⟨w.heap.size + 1, 2, none⟩ = some (.int .i64 e.z) := (HB2.out.cell 2).trans rfl
  exact bodyPost_ret (v := e3V e) (by simp [results, Tryz.results201, go_sem, r0, r1, r2]) rfl ⟨rfl, HB.out⟩
def E3r (e : E3) : Prop := (0 ≤ e.x ∧ e.x ≤ 200) ∧ (0 ≤ e.y ∧ e.y ≤ 200) ∧ (0 ≤ e.z ∧ e.z ≤ 200)
theorem prod_wrap (e : E3) (h : E3r e) : wrap64 (wrap64 (e.x * e.y) * e.z) = e.x * e.y * e.z := by
  obtain ⟨⟨a1, a2⟩, ⟨b1, b2⟩, ⟨c1, c2⟩⟩ := h
  have h1 : 0 ≤ e.x * e.y := Int.mul_nonneg a1 b1
  have h2 : e.x * e.y ≤ 200 * 200 := Int.mul_le_mul a2 b2 b1 (by omega)
  have e1 : wrap64 (e.x * e.y) = e.x * e.y := by unfold wrap64; omega
  rw [e1]
  have h3 : 0 ≤ e.x * e.y * e.z := Int.mul_nonneg h1 c1
  have h4 : e.x * e.y * e.z ≤ 200 * 200 * 200 := Int.mul_le_mul h2 c2 c1 (by omega)
  unfold wrap64; omega
set_option maxRecDepth 100000 in
set_option maxHeartbeats 1000000 in
theorem product_any (e : E3) (w : World) (h : E3r e) : Calls Tryz.prog 137 #[e3V e] w fun e' w' => e' = .returned (.int .i64 (e.x * e.y * e.z)) ∧ Below w.heap.size w w' := by
  have HW := Lib.hid (prod_wrap e h)
  have HB := Lib.hid ((Below.refl w.heap.size w).alloc (Nat.le_refl _) (.cells #[.int .i64 e.x, .int .i64 e.y, .int .i64 e.z] 22))
  clear h
  go_enter Tryz.func137, Tryz.ntmps137
  go_wp2_with fail
  go_ret
  exact ⟨ret1 (congrArg (Value.int .i64) HW.out), HB.out⟩
theorem below_set {B g : Nat} {w w' : World} (h : Below B w w') (hg : B ≤ g) (i : Nat) (v : Value) : Below B w (w'.setCell ⟨g, i, none⟩ v) :=
  ⟨h.os, h.tape, h.output, by simp [World.setCell]; exact h.size, fun k hk => (Below.heap_setCell w' ⟨g, i, none⟩ v k (by dsimp only; omega)).trans (h.block k hk)⟩
theorem below_trans {w0 w w' : World} (h : Below w0.heap.size w0 w) (hb : Below w.heap.size w w') : Below w0.heap.size w0 w' := h.trans (hb.mono h.size)
set_option maxRecDepth 100000 in
set_option maxHeartbeats 1000000 in
theorem reworked_any (v : Value) (e : E3) (hv : ExtOk v e) (k : Int) (w : World) : Calls Tryz.prog 89 #[v, .int .i64 k] w fun e' w' => e' = .returned (.agg #[.int .i64 e.x, .int .i64 e.y, .int .i64 e.z, .int .i64 k, v]) ∧ Below w.heap.size w w' := by
  obtain ⟨t, x, rfl, hm⟩ := hv
  have h2 := call201
  have HC := Lib.hid (fun w => extents_shape e w)
  have B2 := Blk.new w 113 #[.int .i64 0, .int .i64 0, .int .i64 0, .int .i64 0, .nilIface]
  have hb := (Below.refl w.heap.size w).alloc (Nat.le_refl _) (.cells #[.int .i64 0, .int .i64 0, .int .i64 0, .int .i64 0, .nilIface] 113)
  have HB := Lib.hid hb
  have HB2 := Lib.hid B2
  clear hb B2
  obtain ⟨n0, hn0⟩ : ∃ n0, n0 = w.heap.size := ⟨_, rfl⟩
  have Hn0 := Lib.hid hn0
  rw [← hn0] at HB2
  clear hn0
  go_enter Tryz.func89, Tryz.ntmps89
  go_wp2_with fail
  refine (HC.out _).mono ?_
  rintro e' w1 ⟨rfl, hb1⟩
  rw [← Hn0.out]
  have hB1 := HB2.out.below hb1 HB2.out.lt
  have HB1 := Lib.hid (HB.out.trans (hb1.mono HB.out.size))
  have HBB := Lib.hid hB1
  have z0 := hB1.frozen 0
  have z1 := hB1.frozen 1
  have z2 := hB1.frozen 2
  have z3 := hB1.frozen 3
  have z4 := hB1.frozen 4
  have d0 : w1.cell? ⟨n0, 0, none⟩ = some (.int .i64 0) := (hB1.cell 0).trans rfl
  have d1 : w1.cell? ⟨n0, 1, none⟩ = some (.int .i64 0) := (hB1.cell 1).trans rfl
  have d2 : w1.cell? ⟨n0, 2, none⟩ = some (.int .i64 0) := (hB1.cell 2).trans rfl
  have d3 : w1.cell? ⟨n0, 3, none⟩ = some (.int .i64 0) := (hB1.cell 3).trans rfl
  have d4 : w1.cell? ⟨n0, 4, none⟩ = some .nilIface := (hB1.cell 4).trans rfl
  clear hb1 hB1 hm h2 HC
  go_wp2_with fail
  have hle : w.heap.size ≤ n0 := by rw [Hn0.out]; exact Nat.le_refl _
  have HZ := (((((HBB.out.set (i := 0) (.int .i64 e.x)).set (i := 1) (.int .i64 e.y)).set (i := 2) (.int .i64 e.z)).set (i := 3) (.int .i64 k)).set (i := 4) (.iface t x))
  have HQ := below_set (below_set (below_set (below_set (below_set HB1.out hle 0 (.int .i64 e.x)) hle 1 (.int .i64 e.y)) hle 2 (.int .i64 e.z)) hle 3 (.int .i64 k)) hle 4 (.iface t x)
  generalize ((((w1.setCell { block := n0, off := 0 } (Value.int IntKind.i64 e.x)).setCell { block := n0, off := 1 } (Value.int IntKind.i64 e.y)).setCell { block := n0, off := 2 } (Value.int IntKind.i64 e.z)).setCell { block := n0, off := 3 } (Value.int IntKind.i64 k)).setCell { block := n0, off := 4 } (Value.iface t x) = W at *
  have r0 : W.cell? ⟨n0, 0, none⟩ = some (.int .i64 e.x) := (HZ.cell 0).trans rfl
  have r1 : W.cell? ⟨n0, 1, none⟩ = some (.int .i64 e.y) := (HZ.cell 1).trans rfl
  have r2 : W.cell? ⟨n0, 2, none⟩ = some (.int .i64 e.z) := (HZ.cell 2).trans rfl
  have r3 : W.cell? ⟨n0, 3, none⟩ = some (.int .i64 k) := (HZ.cell 3).trans rfl
  have r4 : W.cell? ⟨n0, 4, none⟩ = some (.iface t x) := (HZ.cell 4).trans rfl
  exact bodyPost_ret (v := .agg #[.int .i64 e.x, .int .i64 e.y, .int .i64 e.z, .int .i64 k, .iface t x]) (by simp [results, Tryz.results89, go_sem, r0, r1, r2, r3, r4]) rfl ⟨rfl, HQ⟩
theorem idx_e0 (e : E3) (w : World) : (Instr.index 22 (e3V e) (.int .i64 0)).run Tryz.prog w = .ok (.int .i64 e.x) w := idx_n0 _ _ _ w
theorem idx_e (e : E3) (k : Nat) (hk : k < 3) (w : World) : (Instr.index 22 (.agg #[.int .i64 e.x, .int .i64 e.y, .int .i64 e.z]) (.int .i64 (k : Int))).run Tryz.prog w = .ok (.int .i64 (e.get k)) w := by
  have : k = 0 ∨ k = 1 ∨ k = 2 := by omega
  rcases this with rfl | rfl | rfl
  · exact idx_n0 _ _ _ w
  · exact idx_n1 _ _ _ w
  · exact idx_n2 _ _ _ w
set_option maxRecDepth 100000 in
set_option maxHeartbeats 1000000 in
theorem fits_any (e : E3) (w : World) (h : 0 ≤ e.x ∧ 0 ≤ e.y ∧ 0 ≤ e.z) : Calls Tryz.prog 127 #[e3V e] w fun e' w' => e' = .returned (.bool (decide (Fits e))) ∧ Below w.heap.size w w' := by
  have HB := Lib.hid ((Below.refl w.heap.size w).alloc (Nat.le_refl _) (.cells #[.int .i64 e.x, .int .i64 e.y, .int .i64 e.z] 22))
  have B2 := Blk.new w 22 #[.int .i64 e.x, .int .i64 e.y, .int .i64 e.z]
  have HX := Lib.hid (idx_e e)
  go_enter Tryz.func127, Tryz.ntmps127
  go_wp2_with fail
  generalize hW : w.alloc (.cells #[.int .i64 e.x, .int .i64 e.y, .int .i64 e.z] 22) = W at *
  have c0 : W.cell? ⟨w.heap.size, 0, none⟩ = some (.int .i64 e.x) := (B2.cell 0).trans rfl
  have c1 : W.cell? ⟨w.heap.size, 1, none⟩ = some (.int .i64 e.y) := (B2.cell 1).trans rfl
  have c2 : W.cell? ⟨w.heap.size, 2, none⟩ = some (.int .i64 e.z) := (B2.cell 2).trans rfl
  clear hW B2
  go_loop [6] (fun i => ∃ k : Nat, k ≤ 3 ∧ i = .int .i64 k ∧ ∀ j : Nat, j < k → e.get j ≤ 200) (fun i => 3 - (intOf i).toNat)
  case atStart => exact ⟨0, by omega, rfl, fun j hj => absurd hj (by omega)⟩
  case round =>
    obtain ⟨k, hk, rfl, hok⟩ := hrel
    have HOK := Lib.hid hok
    clear hok
    by_cases hlt : k < 3
    · have hix := fun w => HX.out k hlt w
      by_cases hbig : 200 < e.get k
      · have hd : Hid (decide (Fits e) = false) := Lib.hid (by
          simp only [decide_eq_false_iff_not]
          unfold Fits
          rintro ⟨a, b, c, _⟩
          have : k = 0 ∨ k = 1 ∨ k = 2 := by omega
          rcases this with rfl | rfl | rfl
          · exact absurd a (by simpa [E3.get] using hbig)
          · exact absurd b (by simpa [E3.get] using hbig)
          · exact absurd c (by simpa [E3.get] using hbig))
        clear c0 c1 c2
        go_wp2_with fail
        go_ret
        exact ⟨ret1 (congrArg Value.bool hd.out.symm), HB.out⟩
      · have HBIG := Lib.hid hbig
        clear c0 c1 c2
        go_wp2_with fail
        go_round
        case rel => exact ⟨k + 1, by omega, by go_num, fun j hj => by
          by_cases q : j = k
          · subst q; have := HBIG.out; omega
          · exact HOK.out j (by omega)⟩
        case measure => simp [intOf]; omega
    · obtain rfl : k = 3 := by omega
      have g0 := HOK.out 0 (by omega)
      have g1 := HOK.out 1 (by omega)
      have g2 := HOK.out 2 (by omega)
      simp [E3.get] at g0 g1 g2
      have HC := Lib.hid (product_any e W ⟨⟨h.1, g0⟩, ⟨h.2.1, g1⟩, ⟨h.2.2, g2⟩⟩)
      have hd : Hid (decide (e.x * e.y * e.z ≤ 8000) = decide (Fits e)) := Lib.hid (by
        unfold Fits
        simp [g0, g1, g2])
      clear g0 g1 g2
      go_wp2_with fail
      refine HC.out.mono ?_
      rintro e' w1 ⟨rfl, hb1⟩
      have HB1 := Lib.hid (below_trans HB.out hb1)
      clear hb1
      go_wp2_with fail
      go_ret
      exact ⟨ret1 (congrArg Value.bool hd.out), HB1.out⟩
end Go.Proofs.YticjhkfidgkecaaGreatDoor
