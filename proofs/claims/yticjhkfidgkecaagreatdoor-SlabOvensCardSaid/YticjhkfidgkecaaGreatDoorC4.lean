import Derived.Test.YticjhkfidgkecaaGreatDoorC3
namespace Go.Proofs.YticjhkfidgkecaaGreatDoor
open Go.RowKit Pl

theorem info77 : (Tryz.prog.info? 77).map (fun i => (i.zero, i.size, i.bytes)) = some (some .nilIface, 1, 16) := by kernel_rfl
theorem new1 (W : World) (u : Value) : ∀ (j : Nat) (x : Value), [u][j]? = some x → (W.alloc (.cells #[u] 77)).cell? ((⟨W.heap.size, 0, none⟩ : Addr).add j) = some x := by
  intro j x hj
  have := (Blk.new W 77 #[u]).cell j
  rw [show (⟨W.heap.size, 0, none⟩ : Addr).add j = ⟨W.heap.size, j, none⟩ from by cases j <;> simp [Addr.add], this]
  simpa using hj
/-- build makes this block of a recipe -/
def BuildC (t : Tree) (v : Value) : Prop := ∀ (A : Option Addr) (c : Nat) (w : World), RdL w t.ps A → Own w →
  Calls Tryz.prog 102 #[bv t.hd A t.ps.length c] w fun e' w' => e' = .returned (.tuple #[v, .int .i64 0]) ∧ Below w.heap.size w w'
set_option maxRecDepth 100000 in
set_option maxHeartbeats 2000000 in
theorem build_leaf (h : Hd) (ho : h.op = 1) (hc1 : 97 ≤ h.col) (hc2 : h.col ≤ 105) (hp : 0 ≤ h.n0 ∧ 0 ≤ h.n1 ∧ 0 ≤ h.n2) (hf : Fits ⟨h.n0, h.n1, h.n2⟩) : BuildC (.node h []) (solidV ⟨h.n0, h.n1, h.n2⟩ (h.col - 97)) := by
  intro A c w _ hO
  dsimp only [Tree.hd, Tree.ps, List.length_nil]
  obtain ⟨i0, hi, hz0, hz1, hz2⟩ := info_parts info77
  have hb := (Below.refl w.heap.size w).alloc (Nat.le_refl _) (.cells #[.int .i64 h.op, .int .i64 h.ax, .int .u8 h.col, .int .i64 h.n0, .int .i64 h.n1, .int .i64 h.n2, .slice A 0 c] 25)
  have HB := Lib.hid hb
  have HBB := Lib.hid (Blk.new w 25 #[.int .i64 h.op, .int .i64 h.ax, .int .u8 h.col, .int .i64 h.n0, .int .i64 h.n1, .int .i64 h.n2, .slice A 0 c])
  have HOw := Lib.hid hO
  have HJ := Lib.hid (fun (P : Option Addr) (d : Nat) (w : World) (hO : Own w) => join_solid h A P 0 c 0 d ho hc1 hc2 w hO)
  have HFt := Lib.hid (fun w => fits_any ⟨h.n0, h.n1, h.n2⟩ w hp)
  have hd : decide (Fits ⟨h.n0, h.n1, h.n2⟩) = true := by simpa using hf
  rw [hd] at HFt
  have HX := Lib.hid (fun w => extents_shape ⟨h.n0, h.n1, h.n2⟩ w)
  have hm := fun w => me158 h.n0 h.n1 h.n2 (h.col - 97) w
  have hcall := call201
  clear hb hO ho hc1 hc2 hp hf hd
  unfold bv hdc
  go_enter Tryz.func102, Tryz.ntmps102
  go_wp2_with (at_make; refine wpList_make_own _ rfl _ _ 148 rfl (w.heap.size + 1) 77 i0 _ 1 Tryz.underlying148 hi hz0 hz1 .i64 .i64 _ 0 rfl rfl rfl (by rw [hz2]; omega) (by unfold maxLen; omega) (by simp) ?_; intro w0 hown0 hgrow0; have hBw : Below w.heap.size w w0 := HB.out.grown hgrow0 HB.out.size (fun k e => by cases e); have hBn : Blk w0 w.heap.size 25 #[.int .i64 h.op, .int .i64 h.ax, .int .u8 h.col, .int .i64 h.n0, .int .i64 h.n1, .int .i64 h.n2, .slice A 0 c] := (hgrow0.block w.heap.size HBB.out.lt (by simp)).trans HBB.out; have HO0 : Hid (Own w0) := Lib.hid (HOw.out.below hBw); have HBw := Lib.hid hBw; have c0 : w0.cell? ⟨w.heap.size, 0, none⟩ = some (.int .i64 h.op) := (hBn.cell 0).trans rfl; have c1 : w0.cell? ⟨w.heap.size, 1, none⟩ = some (.int .i64 h.ax) := (hBn.cell 1).trans rfl; have c2 : w0.cell? ⟨w.heap.size, 2, none⟩ = some (.int .u8 h.col) := (hBn.cell 2).trans rfl; have c3 : w0.cell? ⟨w.heap.size, 3, none⟩ = some (.int .i64 h.n0) := (hBn.cell 3).trans rfl; have c4 : w0.cell? ⟨w.heap.size, 4, none⟩ = some (.int .i64 h.n1) := (hBn.cell 4).trans rfl; have c5 : w0.cell? ⟨w.heap.size, 5, none⟩ = some (.int .i64 h.n2) := (hBn.cell 5).trans rfl; have c6 : w0.cell? ⟨w.heap.size, 6, none⟩ = some (.slice A 0 c) := (hBn.cell 6).trans rfl; clear hown0 hgrow0 hBw hBn)
  refine wp_loop_rounds 1 ?_
  rw [rounds_succ]
  go_wp2_with fail
  refine (HJ.out _ _ _ HO0.out).mono ?_
  rintro e' w1 ⟨rfl, hb1⟩
  have HB1 := Lib.hid (below_trans HBw.out hb1)
  unfold solidV
  clear hb1 c0 c1 c2 c3 c4 c5 c6
  go_wp2_with fail
  refine (HX.out _).mono ?_
  rintro e' w2 ⟨rfl, hb2⟩
  have HB2 := Lib.hid (below_trans HB1.out hb2)
  clear hb2
  go_wp2_with fail
  refine (HFt.out _).mono ?_
  rintro e' w3 ⟨rfl, hb3⟩
  have HB3 := Lib.hid (below_trans HB2.out hb3)
  clear hb3
  go_wp2_with fail
  go_ret2
  exact ⟨ret2 rfl rfl, HB3.out⟩
end Go.Proofs.YticjhkfidgkecaaGreatDoor
