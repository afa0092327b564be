import Derived.Test.YticjhkfidgkecaaGreatDoorC1
import Derived.BigRegion
namespace Go.Proofs.YticjhkfidgkecaaGreatDoor
open Go.RowKit Pl

theorem run_eq22 (a b c a' b' c' : Int) (r : Bool) (hr : decide (a = a' ∧ b = b' ∧ c = c') = r) (w : World) : (Op.equalIn 10000 22 (.agg #[.int .i64 a, .int .i64 b, .int .i64 c]) (.agg #[.int .i64 a', .int .i64 b', .int .i64 c'])).run Tryz.prog w = .ok r w := by
  subst hr
  have u3 := Tryz.underlying3
  have a3 := Tryz.isAgg3
  have q3 := Tryz.sizeOf3
  rw [show (10000 : Nat) = 9999 + 1 from rfl, Op.equalIn]
  simp only [Sem.run_bind, run_underlying Tryz.underlying22, Result.andThen_ok]
  simp only [Std.Legacy.Range.forIn_eq_forIn_range', Std.Legacy.Range.size, Nat.sub_zero, Nat.add_sub_cancel, Nat.div_one, List.range'_succ, List.range'_zero, List.forIn_cons, List.forIn_nil]
  go_simp
  by_cases h1 : a = a' <;> by_cases h2 : b = b' <;> by_cases h3 : c = c' <;> simp [h1, h2, h3]
theorem Blk.drew' {w : World} {g : Nat} {t : TypeId} {cs : Array Value} (h : Blk w g t cs) : Blk w.drew g t cs := h
theorem Blk.setOther {w : World} {g g' i : Nat} {t : TypeId} {cs : Array Value} (h : Blk w g t cs) (hg : g ≠ g') (v : Value) : Blk (w.setCell ⟨g', i, none⟩ v) g t cs :=
  (Below.heap_setCell w ⟨g', i, none⟩ v g hg).trans h
set_option maxRecDepth 100000 in
set_option maxHeartbeats 2000000 in
theorem stacked_0 (e e2 : E3) (v u : Value) (hv : ExtOk v e) (hu : ExtOk u e2) (h1 : E3r e) (h2 : E3r e2) (w : World) :
    Calls Tryz.prog 135 #[.agg #[.int .i64 e.x, .int .i64 e.y, .int .i64 e.z, .int .i64 0, v], u] w fun e' w' => e' = .returned (.tuple #[.iface 172 (.agg #[.int .i64 (e.x + e2.x), .int .i64 e.y, .int .i64 e.z, .int .i64 0, v, u]), .bool (decide (e.y = e2.y ∧ e.z = e2.z))]) ∧ Below w.heap.size w w' := by
  obtain ⟨t, x, rfl, -⟩ := hv
  obtain ⟨t2, x2, rfl, hm⟩ := hu
  have hc := call201
  have HC := Lib.hid (fun w => extents_shape e2 w)
  have B2 := Blk.new w 113 #[.int .i64 e.x, .int .i64 e.y, .int .i64 e.z, .int .i64 0, .iface t x]
  have HB := Lib.hid ((Below.refl w.heap.size w).alloc (Nat.le_refl _) (.cells #[.int .i64 e.x, .int .i64 e.y, .int .i64 e.z, .int .i64 0, .iface t x] 113))
  have HB2 := Lib.hid B2
  have hwr : wrap64 (e.x + e2.x) = e.x + e2.x := by
    obtain ⟨⟨a1, a2⟩, ⟨b1, b2⟩, ⟨c1, c2⟩⟩ := h1
    obtain ⟨⟨a3, a4⟩, ⟨b3, b4⟩, ⟨c3, c4⟩⟩ := h2
    unfold wrap64; omega
  have HWR := Lib.hid hwr
  clear B2 h1 h2 hwr
  obtain ⟨n0, hn0⟩ : ∃ n0, n0 = w.heap.size := ⟨_, rfl⟩
  have Hn0 := Lib.hid hn0
  rw [← hn0] at HB2
  clear hn0
  go_enter Tryz.func135, Tryz.ntmps135
  go_wp2_with fail
  rw [← Hn0.out]
  refine (HC.out _).mono ?_
  rintro e' w1 ⟨rfl, hb1⟩
  have B3 := Blk.new w1 22 #[.int .i64 e2.x, .int .i64 e2.y, .int .i64 e2.z]
  have hb3 := (Below.refl w1.heap.size w1).alloc (Nat.le_refl _) (.cells #[.int .i64 e2.x, .int .i64 e2.y, .int .i64 e2.z] 22)
  have HB1 := HB2.out.below hb1 HB2.out.lt
  have HB1' := HB1.below hb3 HB1.lt
  have HBw := Lib.hid (below_trans (below_trans HB.out hb1) hb3)
  have hlt : n0 < w1.heap.size := HB1.lt
  clear hb1 hb3 HB1 hm hc HC
  obtain ⟨n1, hn1⟩ : ∃ n1, n1 = w1.heap.size := ⟨_, rfl⟩
  have Hn1 := Lib.hid hn1
  rw [← hn1] at B3 hlt
  clear hn1
  go_wp2_with fail
  rw [← Hn1.out]
  generalize w1.alloc (.cells #[.int .i64 e2.x, .int .i64 e2.y, .int .i64 e2.z] 22) = W at *
  have h01 : n0 ≠ n1 := by omega
  have h10 : n1 ≠ n0 := by omega
  have c0 : W.cell? ⟨n0, 0, none⟩ = some (.int .i64 e.x) := (HB1'.cell 0).trans rfl
  have c3 : W.cell? ⟨n0, 3, none⟩ = some (.int .i64 0) := (HB1'.cell 3).trans rfl
  have z0 := HB1'.frozen 0
  have d0 : W.cell? ⟨n1, 0, none⟩ = some (.int .i64 e2.x) := (B3.cell 0).trans rfl
  have B4 := ((HB1'.set (i := 0) (.int .i64 (e.x + e2.x))).drew')
  have B5 := ((B3.setOther (i := 0) h10 (.int .i64 (e.x + e2.x))).drew')
  have HB4 := Lib.hid B4
  have HB5 := Lib.hid B5
  have HBx := Lib.hid ((below_set HBw.out (Nat.le_of_eq Hn0.out.symm) 0 (.int .i64 (e.x + e2.x))).drew)
  clear HB1' B3 B4 B5
  go_region
  rw [HWR.out]
  generalize (W.setCell ⟨n0, 0, none⟩ (.int .i64 (e.x + e2.x))).drew = W2 at *
  clear c0 c3 z0 d0
  have c0 : W2.cell? ⟨n0, 0, none⟩ = some (.int .i64 (e.x + e2.x)) := (HB4.out.cell 0).trans rfl
  have c3 : W2.cell? ⟨n0, 3, none⟩ = some (.int .i64 0) := (HB4.out.cell 3).trans rfl
  have z0 := HB5.out.frozen 0
  have d0 : W2.cell? ⟨n1, 0, none⟩ = some (.int .i64 e2.x) := (HB5.out.cell 0).trans rfl
  have HB6 := Lib.hid ((HB4.out.setOther (i := 0) h01 (.int .i64 (e.x + e2.x))).drew')
  have HB7 := Lib.hid ((HB5.out.set (i := 0) (.int .i64 (e.x + e2.x))).drew')
  have hle1 : w.heap.size ≤ n1 := by have := Hn0.out; omega
  have HBy := Lib.hid ((below_set HBx.out hle1 0 (.int .i64 (e.x + e2.x))).drew)
  clear hle1
  go_wp2_with fail
  go_region
  generalize (W2.setCell ⟨n1, 0, none⟩ (.int .i64 (e.x + e2.x))).drew = W3 at *
  clear c0 c3 z0 d0 HB4 HB5
  have q0 : W3.cell? ⟨n0, 0, none⟩ = some (.int .i64 (e.x + e2.x)) := (HB6.out.cell 0).trans rfl
  have q1 : W3.cell? ⟨n0, 1, none⟩ = some (.int .i64 e.y) := (HB6.out.cell 1).trans rfl
  have q2 : W3.cell? ⟨n0, 2, none⟩ = some (.int .i64 e.z) := (HB6.out.cell 2).trans rfl
  have q3 : W3.cell? ⟨n0, 3, none⟩ = some (.int .i64 0) := (HB6.out.cell 3).trans rfl
  have q4 : W3.cell? ⟨n0, 4, none⟩ = some (.iface t x) := (HB6.out.cell 4).trans rfl
  have p0 : W3.cell? ⟨n1, 0, none⟩ = some (.int .i64 (e.x + e2.x)) := (HB7.out.cell 0).trans rfl
  have p1 : W3.cell? ⟨n1, 1, none⟩ = some (.int .i64 e2.y) := (HB7.out.cell 1).trans rfl
  have p2 : W3.cell? ⟨n1, 2, none⟩ = some (.int .i64 e2.z) := (HB7.out.cell 2).trans rfl
  have hq := fun w => run_eq22 (e.x + e2.x) (e2.y) (e2.z) (e.x + e2.x) (e.y) (e.z) (decide (e.y = e2.y ∧ e.z = e2.z)) (by simp [eq_comm]) w
  go_wp2_with fail
  go_region
  go_wp2_with fail
  go_ret2
  exact ⟨ret2 rfl (by simp), HBy.out.drew⟩
set_option maxRecDepth 100000 in
set_option maxHeartbeats 2000000 in
theorem stacked_1 (e e2 : E3) (v u : Value) (hv : ExtOk v e) (hu : ExtOk u e2) (h1 : E3r e) (h2 : E3r e2) (w : World) :
    Calls Tryz.prog 135 #[.agg #[.int .i64 e.x, .int .i64 e.y, .int .i64 e.z, .int .i64 1, v], u] w fun e' w' => e' = .returned (.tuple #[.iface 172 (.agg #[.int .i64 e.x, .int .i64 (e.y + e2.y), .int .i64 e.z, .int .i64 1, v, u]), .bool (decide (e.x = e2.x ∧ e.z = e2.z))]) ∧ Below w.heap.size w w' := by
  obtain ⟨t, x, rfl, -⟩ := hv
  obtain ⟨t2, x2, rfl, hm⟩ := hu
  have hc := call201
  have HC := Lib.hid (fun w => extents_shape e2 w)
  have B2 := Blk.new w 113 #[.int .i64 e.x, .int .i64 e.y, .int .i64 e.z, .int .i64 1, .iface t x]
  have HB := Lib.hid ((Below.refl w.heap.size w).alloc (Nat.le_refl _) (.cells #[.int .i64 e.x, .int .i64 e.y, .int .i64 e.z, .int .i64 1, .iface t x] 113))
  have HB2 := Lib.hid B2
  have hwr : wrap64 (e.y + e2.y) = e.y + e2.y := by
    obtain ⟨⟨a1, a2⟩, ⟨b1, b2⟩, ⟨c1, c2⟩⟩ := h1
    obtain ⟨⟨a3, a4⟩, ⟨b3, b4⟩, ⟨c3, c4⟩⟩ := h2
    unfold wrap64; omega
  have HWR := Lib.hid hwr
  clear B2 h1 h2 hwr
  obtain ⟨n0, hn0⟩ : ∃ n0, n0 = w.heap.size := ⟨_, rfl⟩
  have Hn0 := Lib.hid hn0
  rw [← hn0] at HB2
  clear hn0
  go_enter Tryz.func135, Tryz.ntmps135
  go_wp2_with fail
  rw [← Hn0.out]
  refine (HC.out _).mono ?_
  rintro e' w1 ⟨rfl, hb1⟩
  have B3 := Blk.new w1 22 #[.int .i64 e2.x, .int .i64 e2.y, .int .i64 e2.z]
  have hb3 := (Below.refl w1.heap.size w1).alloc (Nat.le_refl _) (.cells #[.int .i64 e2.x, .int .i64 e2.y, .int .i64 e2.z] 22)
  have HB1 := HB2.out.below hb1 HB2.out.lt
  have HB1' := HB1.below hb3 HB1.lt
  have HBw := Lib.hid (below_trans (below_trans HB.out hb1) hb3)
  have hlt : n0 < w1.heap.size := HB1.lt
  clear hb1 hb3 HB1 hm hc HC
  obtain ⟨n1, hn1⟩ : ∃ n1, n1 = w1.heap.size := ⟨_, rfl⟩
  have Hn1 := Lib.hid hn1
  rw [← hn1] at B3 hlt
  clear hn1
  go_wp2_with fail
  rw [← Hn1.out]
  generalize w1.alloc (.cells #[.int .i64 e2.x, .int .i64 e2.y, .int .i64 e2.z] 22) = W at *
  have h01 : n0 ≠ n1 := by omega
  have h10 : n1 ≠ n0 := by omega
  have c0 : W.cell? ⟨n0, 1, none⟩ = some (.int .i64 e.y) := (HB1'.cell 1).trans rfl
  have c3 : W.cell? ⟨n0, 3, none⟩ = some (.int .i64 1) := (HB1'.cell 3).trans rfl
  have z0 := HB1'.frozen 1
  have d0 : W.cell? ⟨n1, 1, none⟩ = some (.int .i64 e2.y) := (B3.cell 1).trans rfl
  have B4 := ((HB1'.set (i := 1) (.int .i64 (e.y + e2.y))).drew')
  have B5 := ((B3.setOther (i := 1) h10 (.int .i64 (e.y + e2.y))).drew')
  have HB4 := Lib.hid B4
  have HB5 := Lib.hid B5
  have HBx := Lib.hid ((below_set HBw.out (Nat.le_of_eq Hn0.out.symm) 1 (.int .i64 (e.y + e2.y))).drew)
  clear HB1' B3 B4 B5
  go_region
  rw [HWR.out]
  generalize (W.setCell ⟨n0, 1, none⟩ (.int .i64 (e.y + e2.y))).drew = W2 at *
  clear c0 c3 z0 d0
  have c0 : W2.cell? ⟨n0, 1, none⟩ = some (.int .i64 (e.y + e2.y)) := (HB4.out.cell 1).trans rfl
  have c3 : W2.cell? ⟨n0, 3, none⟩ = some (.int .i64 1) := (HB4.out.cell 3).trans rfl
  have z0 := HB5.out.frozen 1
  have d0 : W2.cell? ⟨n1, 1, none⟩ = some (.int .i64 e2.y) := (HB5.out.cell 1).trans rfl
  have HB6 := Lib.hid ((HB4.out.setOther (i := 1) h01 (.int .i64 (e.y + e2.y))).drew')
  have HB7 := Lib.hid ((HB5.out.set (i := 1) (.int .i64 (e.y + e2.y))).drew')
  have hle1 : w.heap.size ≤ n1 := by have := Hn0.out; omega
  have HBy := Lib.hid ((below_set HBx.out hle1 1 (.int .i64 (e.y + e2.y))).drew)
  clear hle1
  go_wp2_with fail
  go_region
  generalize (W2.setCell ⟨n1, 1, none⟩ (.int .i64 (e.y + e2.y))).drew = W3 at *
  clear c0 c3 z0 d0 HB4 HB5
  have q0 : W3.cell? ⟨n0, 0, none⟩ = some (.int .i64 e.x) := (HB6.out.cell 0).trans rfl
  have q1 : W3.cell? ⟨n0, 1, none⟩ = some (.int .i64 (e.y + e2.y)) := (HB6.out.cell 1).trans rfl
  have q2 : W3.cell? ⟨n0, 2, none⟩ = some (.int .i64 e.z) := (HB6.out.cell 2).trans rfl
  have q3 : W3.cell? ⟨n0, 3, none⟩ = some (.int .i64 1) := (HB6.out.cell 3).trans rfl
  have q4 : W3.cell? ⟨n0, 4, none⟩ = some (.iface t x) := (HB6.out.cell 4).trans rfl
  have p0 : W3.cell? ⟨n1, 0, none⟩ = some (.int .i64 e2.x) := (HB7.out.cell 0).trans rfl
  have p1 : W3.cell? ⟨n1, 1, none⟩ = some (.int .i64 (e.y + e2.y)) := (HB7.out.cell 1).trans rfl
  have p2 : W3.cell? ⟨n1, 2, none⟩ = some (.int .i64 e2.z) := (HB7.out.cell 2).trans rfl
  have hq := fun w => run_eq22 (e2.x) (e.y + e2.y) (e2.z) (e.x) (e.y + e2.y) (e.z) (decide (e.x = e2.x ∧ e.z = e2.z)) (by simp [eq_comm]) w
  go_wp2_with fail
  go_region
  go_wp2_with fail
  go_ret2
  exact ⟨ret2 rfl (by simp), HBy.out.drew⟩
set_option maxRecDepth 100000 in
set_option maxHeartbeats 2000000 in
theorem stacked_2 (e e2 : E3) (v u : Value) (hv : ExtOk v e) (hu : ExtOk u e2) (h1 : E3r e) (h2 : E3r e2) (w : World) :
    Calls Tryz.prog 135 #[.agg #[.int .i64 e.x, .int .i64 e.y, .int .i64 e.z, .int .i64 2, v], u] w fun e' w' => e' = .returned (.tuple #[.iface 172 (.agg #[.int .i64 e.x, .int .i64 e.y, .int .i64 (e.z + e2.z), .int .i64 2, v, u]), .bool (decide (e.x = e2.x ∧ e.y = e2.y))]) ∧ Below w.heap.size w w' := by
  obtain ⟨t, x, rfl, -⟩ := hv
  obtain ⟨t2, x2, rfl, hm⟩ := hu
  have hc := call201
  have HC := Lib.hid (fun w => extents_shape e2 w)
  have B2 := Blk.new w 113 #[.int .i64 e.x, .int .i64 e.y, .int .i64 e.z, .int .i64 2, .iface t x]
  have HB := Lib.hid ((Below.refl w.heap.size w).alloc (Nat.le_refl _) (.cells #[.int .i64 e.x, .int .i64 e.y, .int .i64 e.z, .int .i64 2, .iface t x] 113))
  have HB2 := Lib.hid B2
  have hwr : wrap64 (e.z + e2.z) = e.z + e2.z := by
    obtain ⟨⟨a1, a2⟩, ⟨b1, b2⟩, ⟨c1, c2⟩⟩ := h1
    obtain ⟨⟨a3, a4⟩, ⟨b3, b4⟩, ⟨c3, c4⟩⟩ := h2
    unfold wrap64; omega
  have HWR := Lib.hid hwr
  clear B2 h1 h2 hwr
  obtain ⟨n0, hn0⟩ : ∃ n0, n0 = w.heap.size := ⟨_, rfl⟩
  have Hn0 := Lib.hid hn0
  rw [← hn0] at HB2
  clear hn0
  go_enter Tryz.func135, Tryz.ntmps135
  go_wp2_with fail
  rw [← Hn0.out]
  refine (HC.out _).mono ?_
  rintro e' w1 ⟨rfl, hb1⟩
  have B3 := Blk.new w1 22 #[.int .i64 e2.x, .int .i64 e2.y, .int .i64 e2.z]
  have hb3 := (Below.refl w1.heap.size w1).alloc (Nat.le_refl _) (.cells #[.int .i64 e2.x, .int .i64 e2.y, .int .i64 e2.z] 22)
  have HB1 := HB2.out.below hb1 HB2.out.lt
  have HB1' := HB1.below hb3 HB1.lt
  have HBw := Lib.hid (below_trans (below_trans HB.out hb1) hb3)
  have hlt : n0 < w1.heap.size := HB1.lt
  clear hb1 hb3 HB1 hm hc HC
  obtain ⟨n1, hn1⟩ : ∃ n1, n1 = w1.heap.size := ⟨_, rfl⟩
  have Hn1 := Lib.hid hn1
  rw [← hn1] at B3 hlt
  clear hn1
  go_wp2_with fail
  rw [← Hn1.out]
  generalize w1.alloc (.cells #[.int .i64 e2.x, .int .i64 e2.y, .int .i64 e2.z] 22) = W at *
  have h01 : n0 ≠ n1 := by omega
  have h10 : n1 ≠ n0 := by omega
  have c0 : W.cell? ⟨n0, 2, none⟩ = some (.int .i64 e.z) := (HB1'.cell 2).trans rfl
  have c3 : W.cell? ⟨n0, 3, none⟩ = some (.int .i64 2) := (HB1'.cell 3).trans rfl
  have z0 := HB1'.frozen 2
  have d0 : W.cell? ⟨n1, 2, none⟩ = some (.int .i64 e2.z) := (B3.cell 2).trans rfl
  have B4 := ((HB1'.set (i := 2) (.int .i64 (e.z + e2.z))).drew')
  have B5 := ((B3.setOther (i := 2) h10 (.int .i64 (e.z + e2.z))).drew')
  have HB4 := Lib.hid B4
  have HB5 := Lib.hid B5
  have HBx := Lib.hid ((below_set HBw.out (Nat.le_of_eq Hn0.out.symm) 2 (.int .i64 (e.z + e2.z))).drew)
  clear HB1' B3 B4 B5
  go_region
  rw [HWR.out]
  generalize (W.setCell ⟨n0, 2, none⟩ (.int .i64 (e.z + e2.z))).drew = W2 at *
  clear c0 c3 z0 d0
  have c0 : W2.cell? ⟨n0, 2, none⟩ = some (.int .i64 (e.z + e2.z)) := (HB4.out.cell 2).trans rfl
  have c3 : W2.cell? ⟨n0, 3, none⟩ = some (.int .i64 2) := (HB4.out.cell 3).trans rfl
  have z0 := HB5.out.frozen 2
  have d0 : W2.cell? ⟨n1, 2, none⟩ = some (.int .i64 e2.z) := (HB5.out.cell 2).trans rfl
  have HB6 := Lib.hid ((HB4.out.setOther (i := 2) h01 (.int .i64 (e.z + e2.z))).drew')
  have HB7 := Lib.hid ((HB5.out.set (i := 2) (.int .i64 (e.z + e2.z))).drew')
  have hle1 : w.heap.size ≤ n1 := by have := Hn0.out; omega
  have HBy := Lib.hid ((below_set HBx.out hle1 2 (.int .i64 (e.z + e2.z))).drew)
  clear hle1
  go_wp2_with fail
  go_region
  generalize (W2.setCell ⟨n1, 2, none⟩ (.int .i64 (e.z + e2.z))).drew = W3 at *
  clear c0 c3 z0 d0 HB4 HB5
  have q0 : W3.cell? ⟨n0, 0, none⟩ = some (.int .i64 e.x) := (HB6.out.cell 0).trans rfl
  have q1 : W3.cell? ⟨n0, 1, none⟩ = some (.int .i64 e.y) := (HB6.out.cell 1).trans rfl
  have q2 : W3.cell? ⟨n0, 2, none⟩ = some (.int .i64 (e.z + e2.z)) := (HB6.out.cell 2).trans rfl
  have q3 : W3.cell? ⟨n0, 3, none⟩ = some (.int .i64 2) := (HB6.out.cell 3).trans rfl
  have q4 : W3.cell? ⟨n0, 4, none⟩ = some (.iface t x) := (HB6.out.cell 4).trans rfl
  have p0 : W3.cell? ⟨n1, 0, none⟩ = some (.int .i64 e2.x) := (HB7.out.cell 0).trans rfl
  have p1 : W3.cell? ⟨n1, 1, none⟩ = some (.int .i64 e2.y) := (HB7.out.cell 1).trans rfl
  have p2 : W3.cell? ⟨n1, 2, none⟩ = some (.int .i64 (e.z + e2.z)) := (HB7.out.cell 2).trans rfl
  have hq := fun w => run_eq22 (e2.x) (e2.y) (e.z + e2.z) (e.x) (e.y) (e.z + e2.z) (decide (e.x = e2.x ∧ e.y = e2.y)) (by simp [eq_comm]) w
  go_wp2_with fail
  go_region
  go_wp2_with fail
  go_ret2
  exact ⟨ret2 rfl (by simp), HBy.out.drew⟩
/-- a block of work: extents, axis, part -/
def workV (e : E3) (k : Int) (v : Value) : Value := .agg #[.int .i64 e.x, .int .i64 e.y, .int .i64 e.z, .int .i64 k, v]
/-- the value of a stack -/
def stackV (e : E3) (k : Int) (v u : Value) : Value := .iface 172 (.agg #[.int .i64 e.x, .int .i64 e.y, .int .i64 e.z, .int .i64 k, v, u])
theorem stackV_ext (e : E3) (k : Int) {v u : Value} {e1 e2 : E3} (hv : ExtOk v e1) (hu : ExtOk u e2) : ExtOk (stackV e k v u) e := by
  obtain ⟨t, x, rfl, _⟩ := hv
  obtain ⟨t2, x2, rfl, _⟩ := hu
  exact ⟨172, _, rfl, fun w => me172 e.x e.y e.z k t t2 x x2 w⟩
theorem stacked_any (e e2 : E3) (k : Int) (hk : 0 ≤ k ∧ k ≤ 2) (v u : Value) (hv : ExtOk v e) (hu : ExtOk u e2) (h1 : E3r e) (h2 : E3r e2) (w : World) :
    Calls Tryz.prog 135 #[workV e k v, u] w fun e' w' => e' = .returned (.tuple #[stackV (e.set k (e.get k + e2.get k)) k v u, .bool (decide (e.set k 0 = e2.set k 0))]) ∧ Below w.heap.size w w' := by
  have h3 : k = 0 ∨ k = 1 ∨ k = 2 := by omega
  rcases h3 with rfl | rfl | rfl
  · have := stacked_0 e e2 v u hv hu h1 h2 w
    simpa [workV, stackV, E3.set, E3.get] using this
  · have := stacked_1 e e2 v u hv hu h1 h2 w
    simpa [workV, stackV, E3.set, E3.get] using this
  · have := stacked_2 e e2 v u hv hu h1 h2 w
    simpa [workV, stackV, E3.set, E3.get] using this
end Go.Proofs.YticjhkfidgkecaaGreatDoor
