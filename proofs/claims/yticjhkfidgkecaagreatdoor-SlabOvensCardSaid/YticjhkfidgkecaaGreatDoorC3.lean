import Derived.Test.YticjhkfidgkecaaGreatDoorC2
import Derived.RegionTactic
namespace Go.Proofs.YticjhkfidgkecaaGreatDoor
open Go.RowKit Pl

theorem me158' (x y z n : Int) (w : World) : (method 340 158 (.agg #[.int .i64 x, .int .i64 y, .int .i64 z, .int .i64 n]) "pantoscope/slab.extents").run Tryz.prog w = .ok (201, .agg #[.int .i64 x, .int .i64 y, .int .i64 z]) w := me158 x y z n w
/-- the value of a block of one colour -/
def solidV (e : E3) (n : Int) : Value := .iface 158 (.agg #[.int .i64 e.x, .int .i64 e.y, .int .i64 e.z, .int .i64 n])
theorem solidV_ext (e : E3) (n : Int) : ExtOk (solidV e n) e := ⟨158, _, rfl, fun w => me158 e.x e.y e.z n w⟩
set_option maxRecDepth 100000 in
set_option maxHeartbeats 2000000 in
theorem join_solid (h : Hd) (A P : Option Addr) (n c m d : Nat) (ho : h.op = 1) (hc1 : 97 ≤ h.col) (hc2 : h.col ≤ 105) (w : World) (hO : Own w) :
    Calls Tryz.prog 126 #[bv h A n c, .slice P m d] w fun e' w' => e' = .returned (.tuple #[solidV ⟨h.n0, h.n1, h.n2⟩ (h.col - 97), .bool true]) ∧ Below w.heap.size w w' := by
  have g1 : (h.op == 1) = true := by simpa using ho
  have HB := Lib.hid ((Below.refl w.heap.size w).alloc (Nat.le_refl _) (.cells #[.int .i64 h.op, .int .i64 h.ax, .int .u8 h.col, .int .i64 h.n0, .int .i64 h.n1, .int .i64 h.n2, .slice A n c] 25))
  have B := Blk.new w 25 #[.int .i64 h.op, .int .i64 h.ax, .int .u8 h.col, .int .i64 h.n0, .int .i64 h.n1, .int .i64 h.n2, .slice A n c]
  have HC := Lib.hid (fun w hO => colourOf_yes h.col hc1 hc2 w hO)
  have HOw := Lib.hid (hO.below HB.out)
  have HBB := Lib.hid B
  clear B hO hc1 hc2 ho
  unfold bv hdc
  go_enter Tryz.func126, Tryz.ntmps126
  go_wp2_with fail
  refine (HC.out _ HOw.out).mono ?_
  rintro e' w1 ⟨rfl, rfl⟩
  go_wp2_with fail
  go_ret2
  exact ⟨ret2 rfl rfl, HB.out⟩
theorem cell_other5 {w : World} {g g' i : Nat} (hg : g ≠ g') (v0 v1 v2 v3 v4 : Value) : (((((w.setCell ⟨g', 0, none⟩ v0).setCell ⟨g', 1, none⟩ v1).setCell ⟨g', 2, none⟩ v2).setCell ⟨g', 3, none⟩ v3).setCell ⟨g', 4, none⟩ v4).cell? ⟨g, i, none⟩ = w.cell? ⟨g, i, none⟩ := by
  have h : ∀ (u : World) (j : Nat) (v : Value), (u.setCell ⟨g', j, none⟩ v).cell? ⟨g, i, none⟩ = u.cell? ⟨g, i, none⟩ := fun u j v => World.cell?_of_block (a := ⟨g, i, none⟩) (Below.heap_setCell u ⟨g', j, none⟩ v g hg)
  rw [h, h, h, h, h]
set_option maxRecDepth 100000 in
set_option maxHeartbeats 4000000 in
theorem join_stack (h : Hd) (A : Option Addr) (n c d g : Nat) (ho : h.op = 2) (hk : 0 ≤ h.ax ∧ h.ax ≤ 2) (v u : Value) (e e2 : E3) (hv : ExtOk v e) (hu : ExtOk u e2) (h1 : E3r e) (h2 : E3r e2) (w : World)
    (q0 : w.cell? ⟨g, 0, none⟩ = some v) (q1 : w.cell? ⟨g, 1, none⟩ = some u) :
    Calls Tryz.prog 126 #[bv h A n c, .slice (some ⟨g, 0, none⟩) 2 d] w fun e' w' => e' = .returned (.tuple #[stackV (e.set h.ax (e.get h.ax + e2.get h.ax)) h.ax v u, .bool (decide (e.set h.ax 0 = e2.set h.ax 0))]) ∧ Below w.heap.size w w' := by
  have g1 : (h.op == 1) = false := by rw [ho]; rfl
  have g2 : (h.op == 2) = true := by rw [ho]; rfl
  have HB := Lib.hid ((Below.refl w.heap.size w).alloc (Nat.le_refl _) (.cells #[.int .i64 h.op, .int .i64 h.ax, .int .u8 h.col, .int .i64 h.n0, .int .i64 h.n1, .int .i64 h.n2, .slice A n c] 25))
  have B := Blk.new w 25 #[.int .i64 h.op, .int .i64 h.ax, .int .u8 h.col, .int .i64 h.n0, .int .i64 h.n1, .int .i64 h.n2, .slice A n c]
  have HC := Lib.hid (fun w => reworked_any v e hv h.ax w)
  have HD := Lib.hid (fun w => stacked_any e e2 h.ax hk v u hv hu h1 h2 w)
  obtain ⟨t, x, rfl, -⟩ := hv
  obtain ⟨t2, x2, rfl, -⟩ := hu
  have Q0 := cell_ext HB.out q0
  have Q1 := cell_ext HB.out q1
  have HBB := Lib.hid B
  have hgl := cell_lt q0
  clear h1 h2 hk ho B q0 q1
  unfold bv hdc
  obtain ⟨n0, hn0⟩ : ∃ n0, n0 = w.heap.size := ⟨_, rfl⟩
  have Hn0 := Lib.hid hn0
  rw [← hn0] at HBB
  clear hn0
  go_enter Tryz.func126, Tryz.ntmps126
  go_wp2_with fail
  rw [← Hn0.out]
  generalize w.alloc (.cells #[.int .i64 h.op, .int .i64 h.ax, .int .u8 h.col, .int .i64 h.n0, .int .i64 h.n1, .int .i64 h.n2, .slice A n c] 25) = W at *
  have c1 : W.cell? ⟨n0, 1, none⟩ = some (.int .i64 h.ax) := (HBB.out.cell 1).trans rfl
  have c0 : W.cell? ⟨n0, 0, none⟩ = some (.int .i64 h.op) := (HBB.out.cell 0).trans rfl
  refine Code.wp_mono (Q := fun e' a' w' => e' = .normal ∧ ∃ nb y27 y28 y29 y30 y31 y32, a' = { tmps := #[.agg #[.int .i64 h.op, .int .i64 h.ax, .int .u8 h.col, .int .i64 h.n0, .int .i64 h.n1, .int .i64 h.n2, .slice A n c], .slice (some ⟨g, 0, none⟩) 2 d, .pointer (some ⟨n0, 0, none⟩), undef, .nilIface, .bool false, undef, undef, .pointer (some ⟨nb, 0, none⟩), undef, undef, .pointer (some ⟨n0, 0, none⟩), .int .i64 h.op, .bool false, undef, undef, undef, undef, undef, undef, undef, undef, undef, undef, undef, undef, undef, y27, y28, y29, y30, y31, y32, undef, undef, undef, undef, undef, undef, undef, undef, undef, undef, undef, undef, undef, undef, undef, undef, undef, undef, undef, undef, undef, undef, undef, undef, undef, undef, undef, undef, undef, undef, undef, undef, undef, undef, undef, undef, undef, undef, undef, undef, undef, undef, undef, undef, undef, undef, undef, undef, undef, undef, undef, undef, undef, undef, undef, undef, undef, undef, undef, undef, undef, undef, undef, undef, undef, undef, undef, undef, undef, undef, undef, undef, undef, undef, undef, undef], defers := [] } ∧ Blk w' nb 113 #[.int .i64 e.x, .int .i64 e.y, .int .i64 e.z, .int .i64 h.ax, .iface t x] ∧ Below w.heap.size w w' ∧ Blk w' n0 25 #[.int .i64 h.op, .int .i64 h.ax, .int .u8 h.col, .int .i64 h.n0, .int .i64 h.n1, .int .i64 h.n2, .slice A n c] ∧ w'.cell? ⟨g, 1, none⟩ = some (.iface t2 x2)) ?goon ?region
  case region =>
    refine wp_region_any (by kernel_rfl) ?_
    change wpAny _ _ _ _ _ _ _ (World.drew _)
    have HBd := Lib.hid (HB.out.drew)
    have HBBd := Lib.hid (HBB.out.drew')
    have Q0 : W.drew.cell? ⟨g, 0, none⟩ = some (.iface t x) := Q0
    have Q1 : W.drew.cell? ⟨g, 1, none⟩ = some (.iface t2 x2) := Q1
    clear c1 c0
    generalize W.drew = Wd at *
    have c1 : Wd.cell? ⟨n0, 1, none⟩ = some (.int .i64 h.ax) := (HBBd.out.cell 1).trans rfl
    have hba := (Below.refl Wd.heap.size Wd).alloc (Nat.le_refl _) (.cells #[.int .i64 0, .int .i64 0, .int .i64 0, .int .i64 0, .nilIface] 113)
    have c1A := cell_ext hba c1
    have Q0A := cell_ext hba Q0
    have Q1A := cell_ext hba Q1
    have HBA := Lib.hid (Blk.new Wd 113 #[.int .i64 0, .int .i64 0, .int .i64 0, .int .i64 0, .nilIface])
    have HBdA := Lib.hid (below_trans HBd.out hba)
    have HBBA := Lib.hid (HBBd.out.below hba HBBd.out.lt)
    clear hba
    refine wpAny_take (i := 0) (v := ?_) rfl (by kernel_rfl) (by decide +kernel) (by decide +kernel) (fun _ _ _ h => by cases h.1) (Or.inl ⟨by rfl, ?_⟩) ?_
    rotate_left
    · intro w; first | (go_simp; done) | (go_simp; with_reducible rfl)
    refine wpAny_take (i := 1) (v := ?_) rfl (by kernel_rfl) (by decide +kernel) (by decide +kernel) (fun _ _ _ h => by cases h.1) (Or.inl ⟨by rfl, ?_⟩) ?_
    rotate_left
    · intro w; first | (go_simp; done) | (go_simp; with_reducible rfl)
    refine wpAny_take (i := 3) (v := ?_) rfl (by kernel_rfl) (by decide +kernel) (by decide +kernel) (fun _ _ _ h => by cases h.1) (Or.inl ⟨by rfl, ?_⟩) ?_
    rotate_left
    · intro w; first | (go_simp; done) | (go_simp; with_reducible rfl)
    refine wpAny_ready (rs := [2, 4, 6]) (by decide +kernel) (by simp) ?_
    refine AllReady.cons rfl (fun K hK => ?_) ?_
    · go_simp
      refine hK _ _ ?_
      clear hK K
      refine wpAny_ready (rs := [4, 6]) (by decide +kernel) (by simp) ?_
      refine AllReady.cons rfl (fun K hK => ?_) ?_
      · go_simp
        refine hK _ _ ?_
        clear hK K
        refine wpAny_ready (rs := [5, 6]) (by decide +kernel) (by simp) ?_
        refine AllReady.cons rfl (fun K hK => ?_) ?_
        · go_simp
          go_at_call 89
          refine (HC.out _).mono ?_
          rintro e' w1 ⟨rfl, hb1⟩
          dsimp only
          have HF1 := Lib.hid (below_trans HBd.out hb1)
          have Q1z := cell_ext hb1 Q1
          have HBz := Lib.hid (HBBd.out.below hb1 HBBd.out.lt)
          clear hb1
          refine hK _ _ ?_
          clear hK K
          refine wpAny_ready (rs := [6]) (by decide +kernel) (by simp) ?_
          refine AllReady.cons rfl (fun K hK => ?_) AllReady.nil
          go_simp
          refine hK _ _ ?_
          clear hK K
          refine wpAny_ready (rs := [7]) (by decide +kernel) (by simp) ?_
          refine AllReady.cons rfl (fun K hK => ?_) AllReady.nil
          go_simp
          refine hK _ _ ?_
          clear hK K
          refine wpAny_done (by decide +kernel) ?_ _
          have hb2 := (Below.refl w1.heap.size w1).alloc (Nat.le_refl _) (.cells #[.int .i64 e.x, .int .i64 e.y, .int .i64 e.z, .int .i64 h.ax, .iface t x] 113)
          exact ⟨rfl, w1.heap.size, _, _, _, _, _, _, rfl, Blk.new w1 113 #[.int .i64 e.x, .int .i64 e.y, .int .i64 e.z, .int .i64 h.ax, .iface t x], below_trans HF1.out hb2, HBz.out.below hb2 HBz.out.lt, cell_ext hb2 Q1z⟩
        · refine AllReady.cons rfl (fun K hK => ?_) AllReady.nil
          go_simp
          refine hK _ _ ?_
          clear hK K
          refine wpAny_ready (rs := [5]) (by decide +kernel) (by simp) ?_
          refine AllReady.cons rfl (fun K hK => ?_) AllReady.nil
          go_simp
          go_at_call 89
          refine (HC.out _).mono ?_
          rintro e' w1 ⟨rfl, hb1⟩
          dsimp only
          have HF1 := Lib.hid (below_trans HBdA.out hb1)
          have hz := HBA.out.below hb1 HBA.out.lt
          have Q1z := cell_ext hb1 Q1A
          have HBz := Lib.hid (HBBA.out.below hb1 HBBA.out.lt)
          have dd0 : w1.cell? ⟨Wd.heap.size, 0, none⟩ = some (.int .i64 0) := (hz.cell 0).trans rfl
          have zz0 := hz.frozen 0
          have dd1 : w1.cell? ⟨Wd.heap.size, 1, none⟩ = some (.int .i64 0) := (hz.cell 1).trans rfl
          have zz1 := hz.frozen 1
          have dd2 : w1.cell? ⟨Wd.heap.size, 2, none⟩ = some (.int .i64 0) := (hz.cell 2).trans rfl
          have zz2 := hz.frozen 2
          have dd3 : w1.cell? ⟨Wd.heap.size, 3, none⟩ = some (.int .i64 0) := (hz.cell 3).trans rfl
          have zz3 := hz.frozen 3
          have dd4 : w1.cell? ⟨Wd.heap.size, 4, none⟩ = some (.nilIface) := (hz.cell 4).trans rfl
          have zz4 := hz.frozen 4
          have HZ := Lib.hid hz
          clear hz hb1
          refine hK _ _ ?_
          clear hK K
          refine wpAny_ready (rs := [7]) (by decide +kernel) (by simp) ?_
          refine AllReady.cons rfl (fun K hK => ?_) AllReady.nil
          go_simp
          refine hK _ _ ?_
          clear hK K
          refine wpAny_done (by decide +kernel) ?_ _
          have hge : w.heap.size ≤ Wd.heap.size := HBd.out.size
          have hne : n0 ≠ Wd.heap.size := by have := HBBd.out.lt; omega
          have hgn : g ≠ Wd.heap.size := by have := cell_lt Q1; dsimp only at this; omega
          refine ⟨rfl, Wd.heap.size, _, _, _, _, _, _, rfl, ((((HZ.out.set (i := 0) (.int .i64 e.x)).set (i := 1) (.int .i64 e.y)).set (i := 2) (.int .i64 e.z)).set (i := 3) (.int .i64 h.ax)).set (i := 4) (.iface t x), below_set (below_set (below_set (below_set (below_set HF1.out hge 0 _) hge 1 _) hge 2 _) hge 3 _) hge 4 _, ((((HBz.out.setOther hne _).setOther hne _).setOther hne _).setOther hne _).setOther hne _, ?_⟩
          exact (cell_other5 hgn _ _ _ _ _).trans Q1z
      · refine AllReady.cons rfl (fun K hK => ?_) AllReady.nil
        go_simp
        refine hK _ _ ?_
        clear hK K
        refine wpAny_ready (rs := [4]) (by decide +kernel) (by simp) ?_
        refine AllReady.cons rfl (fun K hK => ?_) AllReady.nil
        go_simp
        refine hK _ _ ?_
        clear hK K
        refine wpAny_ready (rs := [5]) (by decide +kernel) (by simp) ?_
        refine AllReady.cons rfl (fun K hK => ?_) AllReady.nil
        go_simp
        go_at_call 89
        refine (HC.out _).mono ?_
        rintro e' w1 ⟨rfl, hb1⟩
        dsimp only
        have HF1 := Lib.hid (below_trans HBdA.out hb1)
        have hz := HBA.out.below hb1 HBA.out.lt
        have Q1z := cell_ext hb1 Q1A
        have HBz := Lib.hid (HBBA.out.below hb1 HBBA.out.lt)
        have dd0 : w1.cell? ⟨Wd.heap.size, 0, none⟩ = some (.int .i64 0) := (hz.cell 0).trans rfl
        have zz0 := hz.frozen 0
        have dd1 : w1.cell? ⟨Wd.heap.size, 1, none⟩ = some (.int .i64 0) := (hz.cell 1).trans rfl
        have zz1 := hz.frozen 1
        have dd2 : w1.cell? ⟨Wd.heap.size, 2, none⟩ = some (.int .i64 0) := (hz.cell 2).trans rfl
        have zz2 := hz.frozen 2
        have dd3 : w1.cell? ⟨Wd.heap.size, 3, none⟩ = some (.int .i64 0) := (hz.cell 3).trans rfl
        have zz3 := hz.frozen 3
        have dd4 : w1.cell? ⟨Wd.heap.size, 4, none⟩ = some (.nilIface) := (hz.cell 4).trans rfl
        have zz4 := hz.frozen 4
        have HZ := Lib.hid hz
        clear hz hb1
        refine hK _ _ ?_
        clear hK K
        refine wpAny_ready (rs := [7]) (by decide +kernel) (by simp) ?_
        refine AllReady.cons rfl (fun K hK => ?_) AllReady.nil
        go_simp
        refine hK _ _ ?_
        clear hK K
        refine wpAny_done (by decide +kernel) ?_ _
        have hge : w.heap.size ≤ Wd.heap.size := HBd.out.size
        have hne : n0 ≠ Wd.heap.size := by have := HBBd.out.lt; omega
        have hgn : g ≠ Wd.heap.size := by have := cell_lt Q1; dsimp only at this; omega
        refine ⟨rfl, Wd.heap.size, _, _, _, _, _, _, rfl, ((((HZ.out.set (i := 0) (.int .i64 e.x)).set (i := 1) (.int .i64 e.y)).set (i := 2) (.int .i64 e.z)).set (i := 3) (.int .i64 h.ax)).set (i := 4) (.iface t x), below_set (below_set (below_set (below_set (below_set HF1.out hge 0 _) hge 1 _) hge 2 _) hge 3 _) hge 4 _, ((((HBz.out.setOther hne _).setOther hne _).setOther hne _).setOther hne _).setOther hne _, ?_⟩
        exact (cell_other5 hgn _ _ _ _ _).trans Q1z
    · refine AllReady.cons rfl (fun K hK => ?_) ?_
      · go_simp
        refine hK _ _ ?_
        clear hK K
        refine wpAny_ready (rs := [2, 6]) (by decide +kernel) (by simp) ?_
        refine AllReady.cons rfl (fun K hK => ?_) ?_
        · go_simp
          refine hK _ _ ?_
          clear hK K
          refine wpAny_ready (rs := [5, 6]) (by decide +kernel) (by simp) ?_
          refine AllReady.cons rfl (fun K hK => ?_) ?_
          · go_simp
            go_at_call 89
            refine (HC.out _).mono ?_
            rintro e' w1 ⟨rfl, hb1⟩
            dsimp only
            have HF1 := Lib.hid (below_trans HBd.out hb1)
            have Q1z := cell_ext hb1 Q1
            have HBz := Lib.hid (HBBd.out.below hb1 HBBd.out.lt)
            clear hb1
            refine hK _ _ ?_
            clear hK K
            refine wpAny_ready (rs := [6]) (by decide +kernel) (by simp) ?_
            refine AllReady.cons rfl (fun K hK => ?_) AllReady.nil
            go_simp
            refine hK _ _ ?_
            clear hK K
            refine wpAny_ready (rs := [7]) (by decide +kernel) (by simp) ?_
            refine AllReady.cons rfl (fun K hK => ?_) AllReady.nil
            go_simp
            refine hK _ _ ?_
            clear hK K
            refine wpAny_done (by decide +kernel) ?_ _
            have hb2 := (Below.refl w1.heap.size w1).alloc (Nat.le_refl _) (.cells #[.int .i64 e.x, .int .i64 e.y, .int .i64 e.z, .int .i64 h.ax, .iface t x] 113)
            exact ⟨rfl, w1.heap.size, _, _, _, _, _, _, rfl, Blk.new w1 113 #[.int .i64 e.x, .int .i64 e.y, .int .i64 e.z, .int .i64 h.ax, .iface t x], below_trans HF1.out hb2, HBz.out.below hb2 HBz.out.lt, cell_ext hb2 Q1z⟩
          · refine AllReady.cons rfl (fun K hK => ?_) AllReady.nil
            go_simp
            refine hK _ _ ?_
            clear hK K
            refine wpAny_ready (rs := [5]) (by decide +kernel) (by simp) ?_
            refine AllReady.cons rfl (fun K hK => ?_) AllReady.nil
            go_simp
            go_at_call 89
            refine (HC.out _).mono ?_
            rintro e' w1 ⟨rfl, hb1⟩
            dsimp only
            have HF1 := Lib.hid (below_trans HBdA.out hb1)
            have hz := HBA.out.below hb1 HBA.out.lt
            have Q1z := cell_ext hb1 Q1A
            have HBz := Lib.hid (HBBA.out.below hb1 HBBA.out.lt)
            have dd0 : w1.cell? ⟨Wd.heap.size, 0, none⟩ = some (.int .i64 0) := (hz.cell 0).trans rfl
            have zz0 := hz.frozen 0
            have dd1 : w1.cell? ⟨Wd.heap.size, 1, none⟩ = some (.int .i64 0) := (hz.cell 1).trans rfl
            have zz1 := hz.frozen 1
            have dd2 : w1.cell? ⟨Wd.heap.size, 2, none⟩ = some (.int .i64 0) := (hz.cell 2).trans rfl
            have zz2 := hz.frozen 2
            have dd3 : w1.cell? ⟨Wd.heap.size, 3, none⟩ = some (.int .i64 0) := (hz.cell 3).trans rfl
            have zz3 := hz.frozen 3
            have dd4 : w1.cell? ⟨Wd.heap.size, 4, none⟩ = some (.nilIface) := (hz.cell 4).trans rfl
            have zz4 := hz.frozen 4
            have HZ := Lib.hid hz
            clear hz hb1
            refine hK _ _ ?_
            clear hK K
            refine wpAny_ready (rs := [7]) (by decide +kernel) (by simp) ?_
            refine AllReady.cons rfl (fun K hK => ?_) AllReady.nil
            go_simp
            refine hK _ _ ?_
            clear hK K
            refine wpAny_done (by decide +kernel) ?_ _
            have hge : w.heap.size ≤ Wd.heap.size := HBd.out.size
            have hne : n0 ≠ Wd.heap.size := by have := HBBd.out.lt; omega
            have hgn : g ≠ Wd.heap.size := by have := cell_lt Q1; dsimp only at this; omega
            refine ⟨rfl, Wd.heap.size, _, _, _, _, _, _, rfl, ((((HZ.out.set (i := 0) (.int .i64 e.x)).set (i := 1) (.int .i64 e.y)).set (i := 2) (.int .i64 e.z)).set (i := 3) (.int .i64 h.ax)).set (i := 4) (.iface t x), below_set (below_set (below_set (below_set (below_set HF1.out hge 0 _) hge 1 _) hge 2 _) hge 3 _) hge 4 _, ((((HBz.out.setOther hne _).setOther hne _).setOther hne _).setOther hne _).setOther hne _, ?_⟩
            exact (cell_other5 hgn _ _ _ _ _).trans Q1z
        · refine AllReady.cons rfl (fun K hK => ?_) AllReady.nil
          go_simp
          refine hK _ _ ?_
          clear hK K
          refine wpAny_ready (rs := [2]) (by decide +kernel) (by simp) ?_
          refine AllReady.cons rfl (fun K hK => ?_) AllReady.nil
          go_simp
          refine hK _ _ ?_
          clear hK K
          refine wpAny_ready (rs := [5]) (by decide +kernel) (by simp) ?_
          refine AllReady.cons rfl (fun K hK => ?_) AllReady.nil
          go_simp
          go_at_call 89
          refine (HC.out _).mono ?_
          rintro e' w1 ⟨rfl, hb1⟩
          dsimp only
          have HF1 := Lib.hid (below_trans HBdA.out hb1)
          have hz := HBA.out.below hb1 HBA.out.lt
          have Q1z := cell_ext hb1 Q1A
          have HBz := Lib.hid (HBBA.out.below hb1 HBBA.out.lt)
          have dd0 : w1.cell? ⟨Wd.heap.size, 0, none⟩ = some (.int .i64 0) := (hz.cell 0).trans rfl
          have zz0 := hz.frozen 0
          have dd1 : w1.cell? ⟨Wd.heap.size, 1, none⟩ = some (.int .i64 0) := (hz.cell 1).trans rfl
          have zz1 := hz.frozen 1
          have dd2 : w1.cell? ⟨Wd.heap.size, 2, none⟩ = some (.int .i64 0) := (hz.cell 2).trans rfl
          have zz2 := hz.frozen 2
          have dd3 : w1.cell? ⟨Wd.heap.size, 3, none⟩ = some (.int .i64 0) := (hz.cell 3).trans rfl
          have zz3 := hz.frozen 3
          have dd4 : w1.cell? ⟨Wd.heap.size, 4, none⟩ = some (.nilIface) := (hz.cell 4).trans rfl
          have zz4 := hz.frozen 4
          have HZ := Lib.hid hz
          clear hz hb1
          refine hK _ _ ?_
          clear hK K
          refine wpAny_ready (rs := [7]) (by decide +kernel) (by simp) ?_
          refine AllReady.cons rfl (fun K hK => ?_) AllReady.nil
          go_simp
          refine hK _ _ ?_
          clear hK K
          refine wpAny_done (by decide +kernel) ?_ _
          have hge : w.heap.size ≤ Wd.heap.size := HBd.out.size
          have hne : n0 ≠ Wd.heap.size := by have := HBBd.out.lt; omega
          have hgn : g ≠ Wd.heap.size := by have := cell_lt Q1; dsimp only at this; omega
          refine ⟨rfl, Wd.heap.size, _, _, _, _, _, _, rfl, ((((HZ.out.set (i := 0) (.int .i64 e.x)).set (i := 1) (.int .i64 e.y)).set (i := 2) (.int .i64 e.z)).set (i := 3) (.int .i64 h.ax)).set (i := 4) (.iface t x), below_set (below_set (below_set (below_set (below_set HF1.out hge 0 _) hge 1 _) hge 2 _) hge 3 _) hge 4 _, ((((HBz.out.setOther hne _).setOther hne _).setOther hne _).setOther hne _).setOther hne _, ?_⟩
          exact (cell_other5 hgn _ _ _ _ _).trans Q1z
      · refine AllReady.cons rfl (fun K hK => ?_) AllReady.nil
        go_simp
        refine hK _ _ ?_
        clear hK K
        refine wpAny_ready (rs := [2, 4]) (by decide +kernel) (by simp) ?_
        refine AllReady.cons rfl (fun K hK => ?_) ?_
        · go_simp
          refine hK _ _ ?_
          clear hK K
          refine wpAny_ready (rs := [4]) (by decide +kernel) (by simp) ?_
          refine AllReady.cons rfl (fun K hK => ?_) AllReady.nil
          go_simp
          refine hK _ _ ?_
          clear hK K
          refine wpAny_ready (rs := [5]) (by decide +kernel) (by simp) ?_
          refine AllReady.cons rfl (fun K hK => ?_) AllReady.nil
          go_simp
          go_at_call 89
          refine (HC.out _).mono ?_
          rintro e' w1 ⟨rfl, hb1⟩
          dsimp only
          have HF1 := Lib.hid (below_trans HBdA.out hb1)
          have hz := HBA.out.below hb1 HBA.out.lt
          have Q1z := cell_ext hb1 Q1A
          have HBz := Lib.hid (HBBA.out.below hb1 HBBA.out.lt)
          have dd0 : w1.cell? ⟨Wd.heap.size, 0, none⟩ = some (.int .i64 0) := (hz.cell 0).trans rfl
          have zz0 := hz.frozen 0
          have dd1 : w1.cell? ⟨Wd.heap.size, 1, none⟩ = some (.int .i64 0) := (hz.cell 1).trans rfl
          have zz1 := hz.frozen 1
          have dd2 : w1.cell? ⟨Wd.heap.size, 2, none⟩ = some (.int .i64 0) := (hz.cell 2).trans rfl
          have zz2 := hz.frozen 2
          have dd3 : w1.cell? ⟨Wd.heap.size, 3, none⟩ = some (.int .i64 0) := (hz.cell 3).trans rfl
          have zz3 := hz.frozen 3
          have dd4 : w1.cell? ⟨Wd.heap.size, 4, none⟩ = some (.nilIface) := (hz.cell 4).trans rfl
          have zz4 := hz.frozen 4
          have HZ := Lib.hid hz
          clear hz hb1
          refine hK _ _ ?_
          clear hK K
          refine wpAny_ready (rs := [7]) (by decide +kernel) (by simp) ?_
          refine AllReady.cons rfl (fun K hK => ?_) AllReady.nil
          go_simp
          refine hK _ _ ?_
          clear hK K
          refine wpAny_done (by decide +kernel) ?_ _
          have hge : w.heap.size ≤ Wd.heap.size := HBd.out.size
          have hne : n0 ≠ Wd.heap.size := by have := HBBd.out.lt; omega
          have hgn : g ≠ Wd.heap.size := by have := cell_lt Q1; dsimp only at this; omega
          refine ⟨rfl, Wd.heap.size, _, _, _, _, _, _, rfl, ((((HZ.out.set (i := 0) (.int .i64 e.x)).set (i := 1) (.int .i64 e.y)).set (i := 2) (.int .i64 e.z)).set (i := 3) (.int .i64 h.ax)).set (i := 4) (.iface t x), below_set (below_set (below_set (below_set (below_set HF1.out hge 0 _) hge 1 _) hge 2 _) hge 3 _) hge 4 _, ((((HBz.out.setOther hne _).setOther hne _).setOther hne _).setOther hne _).setOther hne _, ?_⟩
          exact (cell_other5 hgn _ _ _ _ _).trans Q1z
        · refine AllReady.cons rfl (fun K hK => ?_) AllReady.nil
          go_simp
          refine hK _ _ ?_
          clear hK K
          refine wpAny_ready (rs := [2]) (by decide +kernel) (by simp) ?_
          refine AllReady.cons rfl (fun K hK => ?_) AllReady.nil
          go_simp
          refine hK _ _ ?_
          clear hK K
          refine wpAny_ready (rs := [5]) (by decide +kernel) (by simp) ?_
          refine AllReady.cons rfl (fun K hK => ?_) AllReady.nil
          go_simp
          go_at_call 89
          refine (HC.out _).mono ?_
          rintro e' w1 ⟨rfl, hb1⟩
          dsimp only
          have HF1 := Lib.hid (below_trans HBdA.out hb1)
          have hz := HBA.out.below hb1 HBA.out.lt
          have Q1z := cell_ext hb1 Q1A
          have HBz := Lib.hid (HBBA.out.below hb1 HBBA.out.lt)
          have dd0 : w1.cell? ⟨Wd.heap.size, 0, none⟩ = some (.int .i64 0) := (hz.cell 0).trans rfl
          have zz0 := hz.frozen 0
          have dd1 : w1.cell? ⟨Wd.heap.size, 1, none⟩ = some (.int .i64 0) := (hz.cell 1).trans rfl
          have zz1 := hz.frozen 1
          have dd2 : w1.cell? ⟨Wd.heap.size, 2, none⟩ = some (.int .i64 0) := (hz.cell 2).trans rfl
          have zz2 := hz.frozen 2
          have dd3 : w1.cell? ⟨Wd.heap.size, 3, none⟩ = some (.int .i64 0) := (hz.cell 3).trans rfl
          have zz3 := hz.frozen 3
          have dd4 : w1.cell? ⟨Wd.heap.size, 4, none⟩ = some (.nilIface) := (hz.cell 4).trans rfl
          have zz4 := hz.frozen 4
          have HZ := Lib.hid hz
          clear hz hb1
          refine hK _ _ ?_
          clear hK K
          refine wpAny_ready (rs := [7]) (by decide +kernel) (by simp) ?_
          refine AllReady.cons rfl (fun K hK => ?_) AllReady.nil
          go_simp
          refine hK _ _ ?_
          clear hK K
          refine wpAny_done (by decide +kernel) ?_ _
          have hge : w.heap.size ≤ Wd.heap.size := HBd.out.size
          have hne : n0 ≠ Wd.heap.size := by have := HBBd.out.lt; omega
          have hgn : g ≠ Wd.heap.size := by have := cell_lt Q1; dsimp only at this; omega
          refine ⟨rfl, Wd.heap.size, _, _, _, _, _, _, rfl, ((((HZ.out.set (i := 0) (.int .i64 e.x)).set (i := 1) (.int .i64 e.y)).set (i := 2) (.int .i64 e.z)).set (i := 3) (.int .i64 h.ax)).set (i := 4) (.iface t x), below_set (below_set (below_set (below_set (below_set HF1.out hge 0 _) hge 1 _) hge 2 _) hge 3 _) hge 4 _, ((((HBz.out.setOther hne _).setOther hne _).setOther hne _).setOther hne _).setOther hne _, ?_⟩
          exact (cell_other5 hgn _ _ _ _ _).trans Q1z
  case goon =>
    rintro _ _ w3 ⟨rfl, nb, y27, y28, y29, y30, y31, y32, rfl, r1, r2, r3, r4⟩
    have f0 : w3.cell? ⟨nb, 0, none⟩ = some (.int .i64 e.x) := (r1.cell 0).trans rfl
    have f1 : w3.cell? ⟨nb, 1, none⟩ = some (.int .i64 e.y) := (r1.cell 1).trans rfl
    have f2 : w3.cell? ⟨nb, 2, none⟩ = some (.int .i64 e.z) := (r1.cell 2).trans rfl
    have f3 : w3.cell? ⟨nb, 3, none⟩ = some (.int .i64 h.ax) := (r1.cell 3).trans rfl
    have f4 : w3.cell? ⟨nb, 4, none⟩ = some (.iface t x) := (r1.cell 4).trans rfl
    have k0 : w3.cell? ⟨n0, 0, none⟩ = some (.int .i64 h.op) := (r3.cell 0).trans rfl
    have R2 := Lib.hid r2
    have R1 := Lib.hid r1
    clear r1 r2 r3 Q0 Q1 c0 c1 HBB HB HC
    go_wp2_with fail
    have F0 : ∀ s : Ext w3, s.w.cell? ⟨nb, 0, none⟩ = some (.int .i64 e.x) := fun s => s.cell f0
    have F1 : ∀ s : Ext w3, s.w.cell? ⟨nb, 1, none⟩ = some (.int .i64 e.y) := fun s => s.cell f1
    have F2 : ∀ s : Ext w3, s.w.cell? ⟨nb, 2, none⟩ = some (.int .i64 e.z) := fun s => s.cell f2
    have F3 : ∀ s : Ext w3, s.w.cell? ⟨nb, 3, none⟩ = some (.int .i64 h.ax) := fun s => s.cell f3
    have F4 : ∀ s : Ext w3, s.w.cell? ⟨nb, 4, none⟩ = some (.iface t x) := fun s => s.cell f4
    have R4 : ∀ s : Ext w3, s.w.cell? ⟨g, 1, none⟩ = some (.iface t2 x2) := fun s => s.cell r4
    clear f0 f1 f2 f3 f4 k0 r4
    refine wp_region_ext (by kernel_rfl) (by kernel_rfl) ?_
    repeat (go_big_quiet_step ((go_at_call 135; refine calls_ext (HD.out _))))
    refine wpQuiet_nil ?_
    rintro _ ⟨s, rfl⟩
    go_wp2_with fail
    go_ret2
    exact ⟨ret2 rfl rfl, below_trans R2.out s.h⟩
end Go.Proofs.YticjhkfidgkecaaGreatDoor
