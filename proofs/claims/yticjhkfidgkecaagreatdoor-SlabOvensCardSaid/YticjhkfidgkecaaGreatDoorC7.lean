import Derived.Test.YticjhkfidgkecaaGreatDoorC6
namespace Go.Proofs.YticjhkfidgkecaaGreatDoor
open Go.RowKit Pl

theorem put7_below {B g : Nat} {w w' : World} (h : Below B w w') (hg : B ≤ g) (v0 v1 v2 v3 v4 v5 v6 : Value) : Below B w (put7 w' g v0 v1 v2 v3 v4 v5 v6) :=
  below_set (below_set (below_set (below_set (below_set (below_set (below_set h hg 0 v0) hg 1 v1) hg 2 v2) hg 3 v3) hg 4 v4) hg 5 v5) hg 6 v6
set_option maxRecDepth 100000 in
set_option maxHeartbeats 1000000 in
theorem parse_ok (s : List UInt8) (t : Tree) (v : Value) (hp : pRec (s.length + 1) s = some (t, [])) (hl : s.length ≤ 1000) (hB : BuildC t v) (hS : Sound t) (hd : depth t ≤ 16) (hL : LenOk t) (w : World) (hE : Env w) (h8 : 8 ≤ w.heap.size) :
    Calls Tryz.prog 24 #[str s] w fun e' w' => ∃ A c, e' = .returned (.tuple #[bv t.hd A t.ps.length c, .int .i64 0]) ∧ Below w.heap.size w w' ∧ RdLP (fun b => w.heap.size ≤ b ∧ Cl w' b) w' t.ps A := by
  obtain ⟨n0, hn0⟩ : ∃ n0, n0 = w.heap.size := ⟨_, rfl⟩
  have Hn0 := Lib.hid hn0
  have hb := (Below.refl w.heap.size w).alloc (Nat.le_refl _) (.cells #[.int .i64 0, .int .i64 0, .int .u8 0, .int .i64 0, .int .i64 0, .int .i64 0, .slice none 0 0] 25)
  have hs1 : (w.alloc (.cells #[.int .i64 0, .int .i64 0, .int .u8 0, .int .i64 0, .int .i64 0, .int .i64 0, .slice none 0 0] 25)).heap.size = w.heap.size + 1 := World.size_alloc _ _
  have B0 := Blk.new w 25 #[.int .i64 0, .int .i64 0, .int .u8 0, .int .i64 0, .int .i64 0, .int .i64 0, .slice none 0 0]
  generalize hW1 : w.alloc (.cells #[.int .i64 0, .int .i64 0, .int .u8 0, .int .i64 0, .int .i64 0, .int .i64 0, .slice none 0 0] 25) = W1 at *
  have hb2 := (Below.refl W1.heap.size W1).alloc (Nat.le_refl _) (.cells #[str s, .bool false] 84)
  have B1 : St (W1.alloc (.cells #[str s, .bool false] 84)) (w.heap.size + 1) s false := by rw [← hs1]; exact Blk.new W1 84 #[str s, .bool false]
  have hBw := below_trans hb hb2
  have hB0 := B0.below hb2 B0.lt
  rw [← hn0] at hB0 B1
  have HC := Lib.hid (recipe_all (s.length + 1) (n0 + 1) s false _ (by omega) hl B1 (hE.below hb |>.below hb2) (by omega))
  have HB0 := Lib.hid hB0
  have HBw := Lib.hid hBw
  have HE := Lib.hid hE
  have HP := Lib.hid hp
  have HCK := Lib.hid (check_ok t v hB hS hd hL)
  have h01 : n0 ≠ n0 + 1 := by omega
  have HS1 : Hid (W1.heap.size = n0 + 1) := Lib.hid (by rw [hs1, hn0])
  clear hn0 hb hs1 B0 hb2 B1 hBw hB0 hE hp hB hS hd hL h8
  have hl' : ¬ (1000 : Int) < s.length := by omega
  go_enter Tryz.func24, Tryz.ntmps24
  go_wp2_with fail
  rw [HS1.out, ← Hn0.out]
  refine HC.out.mono ?_
  rintro e' w2 ⟨h', A, k, c, s', f', rfl, hs2, -, hf2, hR⟩
  rw [HP.out] at hR
  unfold RRel at hR
  obtain ⟨rfl, rfl, rfl, rfl, hrd⟩ := hR
  have hb3 := (Below.refl w2.heap.size w2).alloc (Nat.le_refl _) (hdo t.hd A t.ps.length c)
  have HBw2 : Hid (Below w.heap.size w w2) := Lib.hid (HBw.out.trans (hf2.below (by have := Hn0.out; omega) HBw.out.size))
  have HBw3 := Lib.hid (below_trans HBw2.out hb3)
  have hS3 := hs2.below hb3
  have q0 := hS3.c0
  have q1 := hS3.c1
  have HB2 := Lib.hid (HB0.out.fr hf2 h01)
  have HB3 := Lib.hid (HB2.out.below hb3 HB2.out.lt)
  have HB5 := Lib.hid (Blk.new w2 25 #[.int .i64 t.hd.op, .int .i64 t.hd.ax, .int .u8 t.hd.col, .int .i64 t.hd.n0, .int .i64 t.hd.n1, .int .i64 t.hd.n2, .slice A t.ps.length c])
  have hsz := HBw.out.size
  have hsz0 := HB0.out.lt
  have hrd3 := (rdp_map (q := fun b => n0 + 1 ≤ b ∧ Cl (w2.alloc (hdo t.hd A t.ps.length c)) b) (fun b hb hl => have e := hb3.block b hl; ⟨⟨by have := hb.1; omega, hb.2.of e⟩, e⟩)).2 _ _ hrd
  have HR3 := Lib.hid hrd3
  have HCC := Lib.hid (HCK.out A c _ ((rdp_map fun b hb _ => ⟨hb.2, rfl⟩).2 _ _ hrd3) (HE.out.below HBw3.out).own)
  clear hs2 hf2 hrd hb3 hS3 hsz hsz0 hrd3 HC
  unfold bv hdc
  go_wp2_with fail
  refine HCC.out.mono ?_
  rintro e' w4 ⟨rfl, hb4⟩
  have HBw4 := Lib.hid (below_trans HBw3.out hb4)
  have hB4 := HB3.out.below hb4 HB3.out.lt
  have hB5 := HB5.out.below hb4 HB5.out.lt
  have hrd4 := (rdp_map (q := fun b => n0 + 1 ≤ b ∧ Cl w4 b) (fun b hb hl => have e := hb4.block b hl; ⟨⟨hb.1, hb.2.of e⟩, e⟩)).2 _ _ HR3.out
  have HR4 := Lib.hid hrd4
  have c0 : w4.cell? ⟨w2.heap.size, 0, none⟩ = some (.int .i64 t.hd.op) := (hB5.cell 0).trans rfl
  have c1 : w4.cell? ⟨w2.heap.size, 1, none⟩ = some (.int .i64 t.hd.ax) := (hB5.cell 1).trans rfl
  have c2 : w4.cell? ⟨w2.heap.size, 2, none⟩ = some (.int .u8 t.hd.col) := (hB5.cell 2).trans rfl
  have c3 : w4.cell? ⟨w2.heap.size, 3, none⟩ = some (.int .i64 t.hd.n0) := (hB5.cell 3).trans rfl
  have c4 : w4.cell? ⟨w2.heap.size, 4, none⟩ = some (.int .i64 t.hd.n1) := (hB5.cell 4).trans rfl
  have c5 : w4.cell? ⟨w2.heap.size, 5, none⟩ = some (.int .i64 t.hd.n2) := (hB5.cell 5).trans rfl
  have c6 : w4.cell? ⟨w2.heap.size, 6, none⟩ = some (.slice A t.ps.length c) := (hB5.cell 6).trans rfl
  have d0 : w4.cell? ⟨n0, 0, none⟩ = some (.int .i64 0) := (hB4.cell 0).trans rfl
  have z0 := hB4.frozen 0
  have d1 : w4.cell? ⟨n0, 1, none⟩ = some (.int .i64 0) := (hB4.cell 1).trans rfl
  have z1 := hB4.frozen 1
  have d2 : w4.cell? ⟨n0, 2, none⟩ = some (.int .u8 0) := (hB4.cell 2).trans rfl
  have z2 := hB4.frozen 2
  have d3 : w4.cell? ⟨n0, 3, none⟩ = some (.int .i64 0) := (hB4.cell 3).trans rfl
  have z3 := hB4.frozen 3
  have d4 : w4.cell? ⟨n0, 4, none⟩ = some (.int .i64 0) := (hB4.cell 4).trans rfl
  have z4 := hB4.frozen 4
  have d5 : w4.cell? ⟨n0, 5, none⟩ = some (.int .i64 0) := (hB4.cell 5).trans rfl
  have z5 := hB4.frozen 5
  have d6 : w4.cell? ⟨n0, 6, none⟩ = some (.slice none 0 0) := (hB4.cell 6).trans rfl
  have z6 := hB4.frozen 6
  have HB4 := Lib.hid hB4
  clear hb4 hB4 hB5 hrd4 HCC q0 q1
  dsimp only
  go_wp2_with fail
  have hW : put7 w4 n0 (.int .i64 t.hd.op) (.int .i64 t.hd.ax) (.int .u8 t.hd.col) (.int .i64 t.hd.n0) (.int .i64 t.hd.n1) (.int .i64 t.hd.n2) (.slice A t.ps.length c) = put7 w4 n0 (.int .i64 t.hd.op) (.int .i64 t.hd.ax) (.int .u8 t.hd.col) (.int .i64 t.hd.n0) (.int .i64 t.hd.n1) (.int .i64 t.hd.n2) (.slice A t.ps.length c) := rfl
  conv at hW => lhs; unfold put7
  rw [hW]
  clear hW
  have HZ := put7_blk (.int .i64 t.hd.op) (.int .i64 t.hd.ax) (.int .u8 t.hd.col) (.int .i64 t.hd.n0) (.int .i64 t.hd.n1) (.int .i64 t.hd.n2) (.slice A t.ps.length c) HB4.out
  have HQ := put7_below HBw4.out (Nat.le_of_eq Hn0.out.symm) (.int .i64 t.hd.op) (.int .i64 t.hd.ax) (.int .u8 t.hd.col) (.int .i64 t.hd.n0) (.int .i64 t.hd.n1) (.int .i64 t.hd.n2) (.slice A t.ps.length c)
  have hR5 := (rdp_map (q := fun b => w.heap.size ≤ b ∧ Cl (put7 w4 n0 (.int .i64 t.hd.op) (.int .i64 t.hd.ax) (.int .u8 t.hd.col) (.int .i64 t.hd.n0) (.int .i64 t.hd.n1) (.int .i64 t.hd.n2) (.slice A t.ps.length c)) b) (fun b hb _ => have e := put7_heap w4 n0 (.int .i64 t.hd.op) (.int .i64 t.hd.ax) (.int .u8 t.hd.col) (.int .i64 t.hd.n0) (.int .i64 t.hd.n1) (.int .i64 t.hd.n2) (.slice A t.ps.length c) b (by have := hb.1; omega); ⟨⟨by have := hb.1; have := Hn0.out; omega, hb.2.of e⟩, e⟩)).2 _ _ HR4.out
  generalize put7 w4 n0 (.int .i64 t.hd.op) (.int .i64 t.hd.ax) (.int .u8 t.hd.col) (.int .i64 t.hd.n0) (.int .i64 t.hd.n1) (.int .i64 t.hd.n2) (.slice A t.ps.length c) = WW at *
  have e0 : WW.cell? ⟨n0, 0, none⟩ = some (.int .i64 t.hd.op) := (HZ.cell 0).trans rfl
  have e1 : WW.cell? ⟨n0, 1, none⟩ = some (.int .i64 t.hd.ax) := (HZ.cell 1).trans rfl
  have e2 : WW.cell? ⟨n0, 2, none⟩ = some (.int .u8 t.hd.col) := (HZ.cell 2).trans rfl
  have e3 : WW.cell? ⟨n0, 3, none⟩ = some (.int .i64 t.hd.n0) := (HZ.cell 3).trans rfl
  have e4 : WW.cell? ⟨n0, 4, none⟩ = some (.int .i64 t.hd.n1) := (HZ.cell 4).trans rfl
  have e5 : WW.cell? ⟨n0, 5, none⟩ = some (.int .i64 t.hd.n2) := (HZ.cell 5).trans rfl
  have e6 : WW.cell? ⟨n0, 6, none⟩ = some (.slice A t.ps.length c) := (HZ.cell 6).trans rfl
  exact bodyPost_ret (v := .tuple #[bv t.hd A t.ps.length c, .int .i64 0]) (by simp [results, Tryz.results24, go_sem, bv, hdc, e0, e1, e2, e3, e4, e5, e6]) rfl ⟨A, c, rfl, HQ, hR5⟩
end Go.Proofs.YticjhkfidgkecaaGreatDoor
