/- The small thing that every law of the layer asks first: a layer of a stack of two colours. -/
import Derived.Test.YticjhkfidgkecaaGreatDoorC7
import Derived.Lib.AppendIntMem
import Derived.IntWalk
namespace Go.Proofs.YticjhkfidgkecaaGreatDoor
open Go.RowKit Pl

/-- the block of 'stack x (a 2 1 1, b 1 1 1)' -/
def saneV : Value := stackV ⟨3, 1, 1⟩ 0 (solidV ⟨2, 1, 1⟩ 0) (solidV ⟨1, 1, 1⟩ 1)
set_option maxHeartbeats 1000000 in
theorem solid_colour (e : E3) (n : Int) (c : E3) (w : World) : Calls Tryz.prog 204 #[.agg #[.int .i64 e.x, .int .i64 e.y, .int .i64 e.z, .int .i64 n], e3V c] w fun e' w' => e' = .returned (.int .i64 n) ∧ Below w.heap.size w w' := by
  have hb := (Below.refl w.heap.size w).alloc (Nat.le_refl _) (.cells #[.int .i64 e.x, .int .i64 e.y, .int .i64 e.z, .int .i64 n] 158)
  have hb2 := hb.alloc hb.size (.cells #[.int .i64 c.x, .int .i64 c.y, .int .i64 c.z] 22)
  have HB := Lib.hid hb2
  clear hb hb2
  go_enter Tryz.func204, Tryz.ntmps204
  go_wp2_with fail
  go_ret
  exact ⟨rfl, HB.out⟩
theorem mc158 (x y z n : Int) (w : World) : (method 340 158 (.agg #[.int .i64 x, .int .i64 y, .int .i64 z, .int .i64 n]) "pantoscope/slab.colour").run Tryz.prog w = .ok (204, .agg #[.int .i64 x, .int .i64 y, .int .i64 z, .int .i64 n]) w := by kernel_rfl
theorem mc172 (x y z k : Int) (t u : TypeId) (p q : Value) (w : World) : (method 340 172 (.agg #[.int .i64 x, .int .i64 y, .int .i64 z, .int .i64 k, .iface t p, .iface u q]) "pantoscope/slab.colour").run Tryz.prog w = .ok (210, .agg #[.int .i64 x, .int .i64 y, .int .i64 z, .int .i64 k, .iface t p, .iface u q]) w := by kernel_rfl
theorem callSolid (v c : Value) (w : World) : (callFunc 204 #[v, c]).run Tryz.prog w = .ok (.enter 204 #[v, c]) w := by kernel_rfl
theorem callStack (v c : Value) (w : World) : (callFunc 210 #[v, c]).run Tryz.prog w = .ok (.enter 210 #[v, c]) w := by kernel_rfl
theorem idx3_0 (a b c : Int) (w : World) : (Instr.index 22 (.agg #[.int .i64 a, .int .i64 b, .int .i64 c]) (.int .i64 0)).run Tryz.prog w = .ok (.int .i64 a) w := by kernel_rfl
set_option maxRecDepth 100000 in
set_option maxHeartbeats 4000000 in
/-- the colour of a cell of a stack of two solids along the first axis -/
theorem stack_colour (E e1 e2 c : E3) (n1 n2 : Int) (hx : 0 ≤ c.x ∧ c.x ≤ 200) (h1 : 0 ≤ e1.x ∧ e1.x ≤ 200) (r : Int) (hr : r = if c.x < e1.x then n1 else n2) (w : World) :
    Calls Tryz.prog 210 #[.agg #[.int .i64 E.x, .int .i64 E.y, .int .i64 E.z, .int .i64 0, solidV e1 n1, solidV e2 n2], e3V c] w fun e' w' => e' = .returned (.int .i64 r) ∧ Below w.heap.size w w' := by
  have hw : IntKind.i64.wrap (c.x - e1.x) = c.x - e1.x := IntWalk.i64_in _ (by omega)
  have hb := (Below.refl w.heap.size w).alloc (Nat.le_refl _) (.cells #[.int .i64 E.x, .int .i64 E.y, .int .i64 E.z, .int .i64 0, solidV e1 n1, solidV e2 n2] 172)
  have HB := Lib.hid (hb.alloc hb.size (.cells #[.int .i64 c.x, .int .i64 c.y, .int .i64 c.z] 22))
  have B1 := (Blk.new w 172 #[.int .i64 E.x, .int .i64 E.y, .int .i64 E.z, .int .i64 0, solidV e1 n1, solidV e2 n2]).alloc (.cells #[.int .i64 c.x, .int .i64 c.y, .int .i64 c.z] 22)
  have B2 := Blk.new (w.alloc (.cells #[.int .i64 E.x, .int .i64 E.y, .int .i64 E.z, .int .i64 0, solidV e1 n1, solidV e2 n2] 172)) 22 #[.int .i64 c.x, .int .i64 c.y, .int .i64 c.z]
  rw [show (w.alloc (.cells #[.int .i64 E.x, .int .i64 E.y, .int .i64 E.z, .int .i64 0, solidV e1 n1, solidV e2 n2] 172)).heap.size = w.heap.size + 1 from Array.size_push _] at B2
  have HB1 := Lib.hid B1
  have HB2 := Lib.hid B2
  have HX := Lib.hid (fun w => extents_shape e1 w)
  have HC1 := Lib.hid (fun w => solid_colour e1 n1 c w)
  have HC2 := Lib.hid (fun w => solid_colour e2 n2 ⟨c.x - e1.x, c.y, c.z⟩ w)
  have hm := fun w => me158 e1.x e1.y e1.z n1 w
  have hcall := call201
  have hi0 := idx3_0 e1.x e1.y e1.z
  have m1 := fun w => mc158 e1.x e1.y e1.z n1 w
  have m2 := fun w => mc158 e2.x e2.y e2.z n2 w
  have hcs := callSolid
  have HR := Lib.hid hr
  clear hb B1 B2 hr hx h1
  unfold solidV at *
  obtain ⟨n0, hn0⟩ : ∃ n0, n0 = w.heap.size := ⟨_, rfl⟩
  have Hn0 := Lib.hid hn0
  rw [← hn0] at HB1 HB2
  go_enter Tryz.func210, Tryz.ntmps210
  go_wp2_with fail
  rw [← hn0]
  clear hn0
  generalize (w.alloc (.cells #[.int .i64 E.x, .int .i64 E.y, .int .i64 E.z, .int .i64 0, .iface 158 (.agg #[.int .i64 e1.x, .int .i64 e1.y, .int .i64 e1.z, .int .i64 n1]), .iface 158 (.agg #[.int .i64 e2.x, .int .i64 e2.y, .int .i64 e2.z, .int .i64 n2])] 172)).alloc (.cells #[.int .i64 c.x, .int .i64 c.y, .int .i64 c.z] 22) = W at *
  have f3 := fun s : Ext W => s.cell (show W.cell? ⟨n0, 3, none⟩ = some (.int .i64 0) from (HB1.out.cell 3).trans rfl)
  have f4 := fun s : Ext W => s.cell (show W.cell? ⟨n0, 4, none⟩ = some (.iface 158 (.agg #[.int .i64 e1.x, .int .i64 e1.y, .int .i64 e1.z, .int .i64 n1])) from (HB1.out.cell 4).trans rfl)
  refine wp_region_ext (by kernel_rfl) (by kernel_rfl) ?_
  repeat (go_big_quiet_step ((go_at_call 201; refine calls_ext (HX.out _))))
  refine wpQuiet_nil ?_
  rintro _ ⟨s, rfl⟩
  have HBs := Lib.hid (HB.out.trans (s.h.mono HB.out.size))
  have hb1 := HB1.out.below s.h HB1.out.lt
  have hb2 := HB2.out.below s.h HB2.out.lt
  generalize s.w = w2 at *
  clear f3 f4 s HX hm hcall hi0
  have c0 : w2.cell? ⟨n0 + 1, 0, none⟩ = some (.int .i64 c.x) := (hb2.cell 0).trans rfl
  have c1 : w2.cell? ⟨n0 + 1, 1, none⟩ = some (.int .i64 c.y) := (hb2.cell 1).trans rfl
  have c2 : w2.cell? ⟨n0 + 1, 2, none⟩ = some (.int .i64 c.z) := (hb2.cell 2).trans rfl
  have z0 := hb2.frozen 0
  have d3 : w2.cell? ⟨n0, 3, none⟩ = some (.int .i64 0) := (hb1.cell 3).trans rfl
  have d4 : w2.cell? ⟨n0, 4, none⟩ = some (.iface 158 (.agg #[.int .i64 e1.x, .int .i64 e1.y, .int .i64 e1.z, .int .i64 n1])) := (hb1.cell 4).trans rfl
  have d5 : w2.cell? ⟨n0, 5, none⟩ = some (.iface 158 (.agg #[.int .i64 e2.x, .int .i64 e2.y, .int .i64 e2.z, .int .i64 n2])) := (hb1.cell 5).trans rfl
  have HZ := Lib.hid (hb2.set (i := 0) (.int .i64 (c.x - e1.x)))
  have HQ := Lib.hid (below_set HBs.out (show w.heap.size ≤ n0 + 1 by have := Hn0.out; omega) 0 (.int .i64 (c.x - e1.x)))
  have HY := Lib.hid (HB1.out)
  have HB1' := Lib.hid hb1
  clear hb1 hb2
  by_cases hlt : c.x < e1.x
  · have HRR : Hid (r = n1) := Lib.hid (by rw [HR.out, if_pos hlt])
    go_wp2_with fail
    refine (HC1.out _).mono ?_
    rintro e' w3 ⟨rfl, hb3⟩
    have HB3 := Lib.hid (below_trans HBs.out hb3)
    clear hb3 HC1
    go_wp2_with fail
    go_ret
    exact ⟨ret1 (congrArg (Value.int .i64) HRR.out.symm), HB3.out⟩
  · have g0 : decide (c.x < e1.x) = false := by simpa using hlt
    have HRR : Hid (r = n2) := Lib.hid (by rw [HR.out, if_neg hlt])
    go_wp2_with fail
    refine (HC2.out _).mono ?_
    rintro e' w3 ⟨rfl, hb3⟩
    have HB3 := Lib.hid (below_trans HQ.out hb3)
    clear hb3 HC2
    go_wp2_with fail
    go_ret
    exact ⟨ret1 (congrArg (Value.int .i64) HRR.out.symm), HB3.out⟩
end Go.Proofs.YticjhkfidgkecaaGreatDoor
