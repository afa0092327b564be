import Derived.Test.YticjhkfidgkecaaGreatDoorC5
import Derived.Test.YticjhkfidgkecaaGreatDoorB10
namespace Go.Proofs.YticjhkfidgkecaaGreatDoor
open Go.RowKit Pl

theorem make_map (w : World) : (Instr.makeMap 123 none).run Tryz.prog w = .ok (.map (some w.heap.size)) (w.alloc (.map #[] 0)) := by
  unfold Instr.makeMap
  simp
theorem rdlp_below {w w' : World} (hb : Below w.heap.size w w') {ps : List Tree} {A : Option Addr} (h : RdLP (Cl w) w ps A) : RdLP (Cl w') w' ps A :=
  (rdp_map fun b hp hl => have e := hb.block b hl; ⟨hp.of e, e⟩).2 ps A h
set_option maxRecDepth 100000 in
set_option maxHeartbeats 2000000 in
theorem made_ok (t : Tree) (v : Value) (hB : BuildC t v) (hS : Sound t) (hd : depth t ≤ 16) (hL : LenOk t) (A : Option Addr) (c : Nat) (w : World) (hR : RdLP (Cl w) w t.ps A) (hO : Own w) :
    Calls Tryz.prog 64 #[bv t.hd A t.ps.length c] w fun e' w' => e' = .returned (.tuple #[v, .int .i64 0]) ∧ Below w.heap.size w w' := by
  have hb := (Below.refl w.heap.size w).alloc (Nat.le_refl _) (hdo t.hd A t.ps.length c)
  have HBB := Blk.new w 25 #[.int .i64 t.hd.op, .int .i64 t.hd.ax, .int .u8 t.hd.col, .int .i64 t.hd.n0, .int .i64 t.hd.n1, .int .i64 t.hd.n2, .slice A t.ps.length c]
  have hs1 : (w.alloc (hdo t.hd A t.ps.length c)).heap.size = w.heap.size + 1 := World.size_alloc _ _
  have hb2 := (Below.refl _ (w.alloc (hdo t.hd A t.ps.length c))).alloc (Nat.le_refl _) (.map #[] 0)
  have hR2 := rdlp_below hb2 (rdlp_below hb hR)
  have hSeen : SeenOk ((w.alloc (hdo t.hd A t.ps.length c)).alloc (.map #[] 0)) (w.heap.size + 1) := ⟨#[], 0, by rw [← hs1]; exact heap_alloc_new _ _, fun e he => by simp at he⟩
  have hT := tooDeep_any t A c 2 (w.heap.size + 1) _ hL hR2 hSeen (by omega) (by omega)
  have hdec : decide (16 < (2 : Int) - 1 + (depthL t.ps : Int)) = false := by rw [depth_ps] at hd; simp; omega
  rw [hdec] at hT
  have HT := Lib.hid hT
  have HBn := Lib.hid ((HBB.below hb2 HBB.lt))
  have HB2 := Lib.hid (below_trans hb hb2)
  have HO := Lib.hid hO
  have HR := Lib.hid (rdp_rd.2 _ _ hR)
  have HSn := Lib.hid hS
  have HBC := Lib.hid hB
  clear hb HBB hs1 hb2 hR2 hSeen hT hdec hO hR hS hB hd hL
  have hmk := make_map
  have hlt : w.heap.size ≠ w.heap.size + 1 := by omega
  go_enter Tryz.func64, Tryz.ntmps64
  unfold bv hdc
  go_wp2_with fail
  refine HT.out.mono ?_
  rintro e' w2 ⟨rfl, hf2, -⟩
  have hB2 := HBn.out.fr hf2 hlt
  have HBw2 : Hid (Below w.heap.size w w2) := Lib.hid (HB2.out.trans (hf2.below (by omega) HB2.out.size))
  have c0 : w2.cell? ⟨w.heap.size, 0, none⟩ = some (.int .i64 t.hd.op) := (hB2.cell 0).trans rfl
  have c1 : w2.cell? ⟨w.heap.size, 1, none⟩ = some (.int .i64 t.hd.ax) := (hB2.cell 1).trans rfl
  have c2 : w2.cell? ⟨w.heap.size, 2, none⟩ = some (.int .u8 t.hd.col) := (hB2.cell 2).trans rfl
  have c3 : w2.cell? ⟨w.heap.size, 3, none⟩ = some (.int .i64 t.hd.n0) := (hB2.cell 3).trans rfl
  have c4 : w2.cell? ⟨w.heap.size, 4, none⟩ = some (.int .i64 t.hd.n1) := (hB2.cell 4).trans rfl
  have c5 : w2.cell? ⟨w.heap.size, 5, none⟩ = some (.int .i64 t.hd.n2) := (hB2.cell 5).trans rfl
  have c6 : w2.cell? ⟨w.heap.size, 6, none⟩ = some (.slice A t.ps.length c) := (hB2.cell 6).trans rfl
  have HBn2 := Lib.hid hB2
  have HC := Lib.hid (sound_any t A c w2 (HR.out.below HBw2.out) (HO.out.below HBw2.out) true (by simpa using HSn.out))
  clear hf2 hB2 hmk
  go_wp2_with fail
  refine HC.out.mono ?_
  rintro e' w3 ⟨rfl, hb3⟩
  have hB3 := HBn2.out.below hb3 HBn2.out.lt
  have HBw3 := Lib.hid (below_trans HBw2.out hb3)
  clear c0 c1 c2 c3 c4 c5 c6
  have c0 : w3.cell? ⟨w.heap.size, 0, none⟩ = some (.int .i64 t.hd.op) := (hB3.cell 0).trans rfl
  have c1 : w3.cell? ⟨w.heap.size, 1, none⟩ = some (.int .i64 t.hd.ax) := (hB3.cell 1).trans rfl
  have c2 : w3.cell? ⟨w.heap.size, 2, none⟩ = some (.int .u8 t.hd.col) := (hB3.cell 2).trans rfl
  have c3 : w3.cell? ⟨w.heap.size, 3, none⟩ = some (.int .i64 t.hd.n0) := (hB3.cell 3).trans rfl
  have c4 : w3.cell? ⟨w.heap.size, 4, none⟩ = some (.int .i64 t.hd.n1) := (hB3.cell 4).trans rfl
  have c5 : w3.cell? ⟨w.heap.size, 5, none⟩ = some (.int .i64 t.hd.n2) := (hB3.cell 5).trans rfl
  have c6 : w3.cell? ⟨w.heap.size, 6, none⟩ = some (.slice A t.ps.length c) := (hB3.cell 6).trans rfl
  have HD := Lib.hid (HBC.out A c w3 (HR.out.below HBw3.out) (HO.out.below HBw3.out))
  clear hb3 hB3 HC
  go_wp2_with fail
  refine HD.out.mono ?_
  rintro e' w4 ⟨rfl, hb4⟩
  have HBw4 := Lib.hid (below_trans HBw3.out hb4)
  clear hb4 HD
  go_wp2_with fail
  go_ret2
  exact ⟨ret2 rfl rfl, HBw4.out⟩
set_option maxRecDepth 100000 in
set_option maxHeartbeats 2000000 in
theorem check_ok (t : Tree) (v : Value) (hB : BuildC t v) (hS : Sound t) (hd : depth t ≤ 16) (hL : LenOk t) (A : Option Addr) (c : Nat) (w : World) (hR : RdLP (Cl w) w t.ps A) (hO : Own w) :
    Calls Tryz.prog 20 #[bv t.hd A t.ps.length c] w fun e' w' => e' = .returned (.int .i64 0) ∧ Below w.heap.size w w' := by
  have hb := (Below.refl w.heap.size w).alloc (Nat.le_refl _) (hdo t.hd A t.ps.length c)
  have HC := Lib.hid (made_ok t v hB hS hd hL A c _ (rdlp_below hb hR) (hO.below hb))
  have HB2 := Lib.hid hb
  clear hb hB hS hd hL hR hO
  go_enter Tryz.func20, Tryz.ntmps20
  unfold bv hdc
  go_wp2_with fail
  refine HC.out.mono ?_
  rintro e' w2 ⟨rfl, hb2⟩
  have HB3 := Lib.hid (below_trans HB2.out hb2)
  clear hb2 HC
  go_wp2_with fail
  go_ret
  exact ⟨rfl, HB3.out⟩
end Go.Proofs.YticjhkfidgkecaaGreatDoor
