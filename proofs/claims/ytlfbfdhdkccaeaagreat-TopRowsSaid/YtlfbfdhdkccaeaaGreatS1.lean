/- hoursOf, endsRight, of the program; timed, of the document. -/
import Derived.Test.YtlfbfdhdkccaeaaGreatD1
import Derived.Test.YtlfbfdhdkccaeaaGreatOpen
import Derived.Test.YtlfbfdhdkccaeaaGreatPZ
namespace Go.Proofs.YtlfbfdhdkccaeaaGreat
open Go.RowKit Go.Shelf Go.Sort

/-- the hours of a run -/
abbrev h5L (E : Pl.Bt) (c : Int) : List Value := [.int .i64 c, .int .i64 E.h0, .int .i64 E.h1, .int .i64 E.h2, .int .i64 E.h3]
theorem infoRn : (Tryz.prog.info? 60).map (·.size) = some 4 := by kernel_rfl
theorem info87 : (Tryz.prog.info? 61).map (·.size) = some 5 := by kernel_rfl
theorem ldm_rn {ops : Array Oper} {rest : List Oper} {o : Oper} {a : Act} {w : World} {Q : Exit → Act → World → Prop} {b off : Nat} {r : Pl.Rn} (hr : w.rangeAt b off (rnL r)) (hw : Region.wanted o (yielded ops a.tmps) = true) (x : Operand) (ho : o.op = .load 60 x)
    (hx : a.eval x = .pointer (some ⟨b, off, none⟩)) (h : wpList Tryz.prog ops Q rest (a.put o.dst (.agg (rnA r))) w) : wpList Tryz.prog ops Q (o :: rest) a w :=
  wpList_wanted hw fun _ hK => wp_load_mid 60 x ho b off hx (rnL r) _ hr Tryz.underlying60 rfl infoRn (hK _ _ h)

set_option maxRecDepth 100000 in
set_option maxHeartbeats 1000000 in
theorem hoursOf_b (E : Pl.Bt) (c : Bool) (cl : Int) (w : World) :
    Calls Tryz.prog 25 #[.agg (btA E), .bool c, .int .i64 cl] w fun e w' => e = .returned (.agg (h5L E (Pl.hc c cl)).toArray) ∧ Below w.heap.size w w' := by
  have hB := (Below.refl w.heap.size w).alloc (Nat.le_refl _) (.cells (btA E) 48)
  have bT := Blk.new w 48 (btA E)
  have HC : Hid (Pl.hc c cl = if c = true then cl else 0) := Lib.hid rfl
  generalize Pl.hc c cl = x at *
  have hB2 := hB.alloc hB.size (.cells (h5L E x).toArray 61)
  have q3 := bT.cell 3
  have q4 := bT.cell 4
  have q5 := bT.cell 5
  have q6 := bT.cell 6
  clear bT
  cases c
  · obtain rfl : x = 0 := HC.out
    go_enter Tryz.func25, Tryz.ntmps25
    go_wp2
    exact bodyPost_ret (v := .agg (h5L E 0).toArray) (by simp [results, Tryz.results25, go_sem]) rfl ⟨rfl, hB2⟩
  · obtain rfl : x = cl := HC.out
    go_enter Tryz.func25, Tryz.ntmps25
    go_wp2
    exact bodyPost_ret (v := .agg (h5L E x).toArray) (by simp [results, Tryz.results25, go_sem]) rfl ⟨rfl, hB2⟩

theorem rn_cells {W : World} {b o : Nat} {r : Pl.Rn} (h : W.rangeAt b o (rnL r)) : W.cell? ⟨b, o, none⟩ = some (.int .i64 r.b) ∧ W.cell? ⟨b, o + 1, none⟩ = some (.int .i64 r.f) ∧ W.cell? ⟨b, o + 2, none⟩ = some (.int .i64 r.t) ∧ W.cell? ⟨b, o + 3, none⟩ = some (.bool r.c) := ⟨h 0 _ rfl, h 1 _ rfl, h 2 _ rfl, h 3 _ rfl⟩
theorem Blk.rn {w : World} {g : Nat} {t : TypeId} {r : Pl.Rn} (h : Blk w g t (rnA r)) : w.rangeAt g 0 (rnL r) := h.range
abbrev z5 : Array Value := #[.int .i64 0, .int .i64 0, .int .i64 0, .int .i64 0, .int .i64 0]
theorem h5_all (E : Pl.Bt) (c : Int) : (h5L E c).toArray.all (·.oneCell') = true := by simp [Value.oneCell']
theorem wrap_no {z S : Int} (h0 : 0 ≤ z) (h1 : z ≤ 18446744073709551615) (hS : 0 ≤ S) (hne : z ≠ S) : (IntKind.i64.wrap z == S) = false := by
  rw [beq_eq_false_iff_ne]
  intro e
  by_cases h : z ≤ 9223372036854775807
  · rw [IntWalk.i64_in _ (by omega)] at e
    exact hne e
  · simp [IntKind.wrap, IntKind.bits, IntKind.signed] at e
    omega
/-- the sum of the hours -/
theorem sum5 (E : Pl.Bt) (c : Int) : Pl.smk [c, E.h0, E.h1, E.h2, E.h3] 5 = c + Pl.len E := by simp [Pl.smk, Pl.len]; omega
theorem sum5_b (E : Pl.Bt) (hvb : Pl.Vb E) (c : Int) (hc0 : 0 ≤ c) (hc1 : c ≤ 100) (g : Nat) (W : World) (h0 : W.cell? ⟨g, 0, none⟩ = some (.int .i64 c)) (h1 : W.cell? ⟨g, 1, none⟩ = some (.int .i64 E.h0)) (h2 : W.cell? ⟨g, 2, none⟩ = some (.int .i64 E.h1)) (h3 : W.cell? ⟨g, 3, none⟩ = some (.int .i64 E.h2)) (h4 : W.cell? ⟨g, 4, none⟩ = some (.int .i64 E.h3)) :
    Calls Tryz.prog 26 #[.slice (some ⟨g, 0, none⟩) 5 5] W fun e w' => e = .returned (.int .i64 (c + Pl.len E)) ∧ w' = W := by
  obtain ⟨a0, b0, a1, b1, a2, b2, a3, b3, _⟩ := hvb
  rw [← sum5]
  refine sum_b g 0 5 5 [c, E.h0, E.h1, E.h2, E.h3] (by omega) (fun k hk => ?_) W (fun k hk => ?_)
  · match k, hk with
    | 0, _ => simp [Pl.smk]
    | 1, _ => simp [Pl.smk]; omega
    | 2, _ => simp [Pl.smk]; omega
    | 3, _ => simp [Pl.smk]; omega
    | 4, _ => simp [Pl.smk]; omega
    | 5, _ => simp [Pl.smk]; omega
  · rw [Nat.zero_add]
    match k, hk with
    | 0, _ => exact h0
    | 1, _ => exact h1
    | 2, _ => exact h2
    | 3, _ => exact h3
    | 4, _ => exact h4

set_option maxRecDepth 100000 in
set_option maxHeartbeats 4000000 in
theorem endsRight_b (A : Option Addr) (l : List Pl.Bt) (c n q : Nat) (hn : l.length = n) (hq : q < n) (E : Pl.Bt) (hE : Pl.at' l q = E) (hvb : Pl.Vb E) (r : Pl.Rn) (hrb : r.b = q) (hrw : Pl.Rw r) (cl : Int) (hc0 : 0 ≤ cl) (hc1 : cl ≤ 100) (v : Bool) (hv : Pl.er E r cl = v) (w : World) (hI : Bts w A l) :
    Calls Tryz.prog 85 #[.slice A n c, .agg (rnA r), .int .i64 cl] w fun e w' => e = .returned (.bool v) ∧ Below w.heap.size w w' := by
  obtain ⟨bz, oz, rfl, hbz, hcz⟩ := bts_open hI (by omega)
  have hB := (Below.refl w.heap.size w).alloc (Nat.le_refl _) (.cells (rnA r) 60)
  have r1 := bts_cells hbz hcz hB (i := q) (by omega)
  rw [hE] at r1
  have bR := Blk.new w 60 (rnA r)
  have hqI : (q : Int) < (n : Int) := by omega
  clear hcz hI hn hE
  obtain ⟨wa, hwa⟩ : ∃ wa, wa = w.alloc (.cells (rnA r) 60) := ⟨_, rfl⟩
  have hbz2 : bz < wa.heap.size := by rw [hwa]; simp; omega
  rw [← hwa] at r1 bR hB
  obtain ⟨gr, hgr⟩ : ∃ gr, w.heap.size = gr := ⟨_, rfl⟩
  have hgw : gr < wa.heap.size := by rw [← hgr]; exact bR.lt
  rw [hgr] at bR
  obtain ⟨⟨rb, rf, rt, rc⟩, hre⟩ : ∃ r', r = r' := ⟨r, rfl⟩
  subst hre
  obtain rfl : rb = (q : Int) := hrb
  have HB : Hid (Below wa.heap.size wa wa.drew) := Lib.hid (Below.refl _ _).drew
  have HBW := Lib.hid hB
  obtain ⟨x, hx⟩ : ∃ x, Pl.hc rc cl = x := ⟨_, rfl⟩
  have HHC := Lib.hid (fun W => hoursOf_b E rc cl W)
  rw [hx] at HHC
  obtain ⟨x0, x1⟩ : 0 ≤ x ∧ x ≤ 100 := by rw [← hx]; exact Pl.hc_bd hc0 hc1
  have HV : Hid (v = (decide (rf ≤ rt) && decide (rt - rf = x + Pl.len E))) := Lib.hid (by rw [← hv, ← hx]; rfl)
  obtain ⟨_, ⟨f0, f1⟩, t0, t1⟩ := hrw
  change -9223372036854775808 ≤ rf at f0
  change rf ≤ 9223372036854775807 at f1
  change -9223372036854775808 ≤ rt at t0
  change rt ≤ 9223372036854775807 at t1
  obtain ⟨l0, l1⟩ := hvb.len0
  have HVB := Lib.hid hvb
  clear hx hv hvb hB
  go_enter Tryz.func85, Tryz.ntmps85
  go_wp2_with fail
  rw [← hwa]
  clear hwa
  refine Code.wp_mono (Q := fun e' a' w' => e' = .normal ∧ ∃ y8 y9 y10 y11 y12 y13 y14 y15 y16 b7, a' = { tmps := #[.slice (some ⟨bz, oz, none⟩) n c, .agg (rnA ⟨(q : Int), rf, rt, rc⟩), .int .i64 cl, undef, .pointer (some ⟨gr, 0, none⟩), undef, .bool false, .pointer (some ⟨b7, 0, none⟩), y8, y9, y10, y11, y12, y13, y14, y15, y16, undef, undef, undef, undef, undef, undef, undef, undef, undef, undef, undef, undef, undef, undef, undef], defers := [] } ∧ Blk w' b7 61 (h5L E x).toArray ∧ Below wa.heap.size wa w') ?goon ?region
  case goon =>
    rintro _ _ w3 ⟨rfl, y8, y9, y10, y11, y12, y13, y14, y15, y16, b7, rfl, k7, hb3⟩
    have bR3 := bR.below hb3 hgw
    have hB3 := HBW.out.trans (hb3.mono HBW.out.size)
    have s0 := fun s : Ext w3 => s.cell ((bR3.cell 1).trans rfl)
    have s1 := fun s : Ext w3 => s.cell ((bR3.cell 2).trans rfl)
    have HSM := Lib.hid (fun (s : Ext w3) => (sum5_b E HVB.out x x0 x1 b7 s.w (s.cell ((k7.cell 0).trans rfl)) (s.cell ((k7.cell 1).trans rfl)) (s.cell ((k7.cell 2).trans rfl)) (s.cell ((k7.cell 3).trans rfl)) (s.cell ((k7.cell 4).trans rfl))).mono fun e w' (h : _ ∧ _) => (show e = .returned (.int .i64 (x + Pl.len E)) ∧ Below s.w.heap.size s.w w' from ⟨h.1, h.2 ▸ Below.refl _ _⟩))
    clear HB bR r1 k7 bR3 hb3
    generalize Pl.len E = LE at *
    by_cases h1 : rf ≤ rt
    · by_cases h2 : rt - rf = x + LE
      · have HF : Hid (v = true) := Lib.hid (by rw [HV.out]; simp [h1, h2])
        have k1 : IntKind.i64.wrap (rt - rf) = x + LE := by rw [IntWalk.i64_in _ (by omega)]; exact h2
        clear h2
        go_wp2
        refine wp_region_ext (by kernel_rfl) (by kernel_rfl) ?_
        repeat (go_big_quiet_step ((go_at_call 26; refine calls_ext (HSM.out _))))
        refine wpQuiet_nil ?_
        rintro _ ⟨s, rfl⟩
        go_wp2
        go_ret
        exact ⟨by rw [HF.out]; rfl, hB3.trans (s.h.mono hB3.size)⟩
      · have HF : Hid (v = false) := Lib.hid (by rw [HV.out]; simp [h2])
        have k1 := wrap_no (z := rt - rf) (S := x + LE) (by omega) (by omega) (by omega) h2
        obtain ⟨Y, hY⟩ : ∃ Y, x + LE = Y := ⟨_, rfl⟩
        rw [hY] at k1 HSM
        have HK1 := Lib.hid k1
        clear h2 hY k1
        go_wp2
        refine wp_region_ext (by kernel_rfl) (by kernel_rfl) ?_
        repeat (go_big_quiet_step ((go_at_call 26; refine calls_ext (HSM.out _))))
        refine wpQuiet_nil ?_
        rintro _ ⟨s, rfl⟩
        go_wp2
        go_ret
        exact ⟨by rw [HF.out]; show Ending.returned (.bool (wrap64 (rt - rf) == Y)) = _; rw [show wrap64 (rt - rf) = IntKind.i64.wrap (rt - rf) from (IntWalk.i64_left _).symm, HK1.out], hB3.trans (s.h.mono hB3.size)⟩
    · have HF : Hid (v = false) := Lib.hid (by rw [HV.out]; simp [h1])
      have d1 : decide (rf ≤ rt) = false := by simp [h1]
      go_wp2
      refine wp_region_ext (by kernel_rfl) (by kernel_rfl) ?_
      repeat (go_big_quiet_step ((go_at_call 26; refine calls_ext (HSM.out _))))
      refine wpQuiet_nil ?_
      rintro _ ⟨s, rfl⟩
      go_wp2
      go_ret
      exact ⟨by rw [HF.out]; rfl, hB3.trans (s.h.mono hB3.size)⟩
  case region =>
    refine wp_region_held (S := fun W => Below wa.heap.size wa W) (by kernel_rfl) ?_
    change wpAnyH _ _ _ _ _ _ _ _ (World.drew _)
    refine wpAnyH_take (i := 0) (v := ?_) rfl (by kernel_rfl) (by decide +kernel) (by decide +kernel) (fun _ _ _ h => by cases h.1) (Or.inl ⟨by rfl, ?_⟩) HB.out ?_
    rotate_left
    · intro w' _; first | (go_simp; done) | (go_simp; with_reducible rfl)
    refine wpAnyH_take (i := 1) (v := ?_) rfl (by kernel_rfl) (by decide +kernel) (by decide +kernel) (fun _ _ _ h => by cases h.1) (Or.inl ⟨by rfl, ?_⟩) HB.out ?_
    rotate_left
    · intro w' _; first | (go_simp; done) | (go_simp; with_reducible rfl)
    refine wpAnyH_take (i := 2) (v := ?_) rfl (by kernel_rfl) (by decide +kernel) (by decide +kernel) (fun _ _ _ h => by cases h.1) (Or.inl ⟨by rfl, ?_⟩) HB.out ?_
    rotate_left
    · intro w' hS; obtain ⟨q0, q1, q2, q3⟩ := rn_cells (rangeAt_below bR.rn hgw hS); first | (go_simp; done) | (go_simp; with_reducible rfl)
    refine wpAnyH_take (i := 3) (v := ?_) rfl (by kernel_rfl) (by decide +kernel) (by decide +kernel) (fun _ _ _ h => by cases h.1) (Or.inl ⟨by rfl, ?_⟩) HB.out ?_
    rotate_left
    · intro w' _; first | (go_simp; done) | (go_simp; with_reducible rfl)
    refine wpAnyH_take (i := 4) (v := ?_) rfl (by kernel_rfl) (by decide +kernel) (by decide +kernel) (fun _ _ _ h => by cases h.1) (Or.inl ⟨by rfl, ?_⟩) HB.out ?_
    rotate_left
    · intro w' hS; obtain ⟨q0, q1, q2, q3, q4, q5, q6⟩ := bt_cells (rangeAt_below r1 hbz2 hS); first | (go_simp; done) | (go_simp; with_reducible rfl)
    refine wpAnyH_take (i := 5) (v := ?_) rfl (by kernel_rfl) (by decide +kernel) (by decide +kernel) (fun _ _ _ h => by cases h.1) (Or.inl ⟨by rfl, ?_⟩) HB.out ?_
    rotate_left
    · intro w' _; first | (go_simp; done) | (go_simp; with_reducible rfl)
    refine wpAnyH_take (i := 6) (v := ?_) rfl (by kernel_rfl) (by decide +kernel) (by decide +kernel) (fun _ _ _ h => by cases h.1) (Or.inl ⟨by rfl, ?_⟩) HB.out ?_
    rotate_left
    · intro w' hS; obtain ⟨q0, q1, q2, q3⟩ := rn_cells (rangeAt_below bR.rn hgw hS); first | (go_simp; done) | (go_simp; with_reducible rfl)
    refine wpAnyH_take (i := 7) (v := ?_) rfl (by kernel_rfl) (by decide +kernel) (by decide +kernel) (fun _ _ _ h => by cases h.1) (Or.inl ⟨by rfl, ?_⟩) HB.out ?_
    rotate_left
    · intro w' _; first | (go_simp; done) | (go_simp; with_reducible rfl)
    clear r1 bR
    refine wpAnyH_all (rs := [8, 9]) (by decide +kernel) (by simp) ?_
    intro i0 hi0
    simp only [List.mem_cons, List.not_mem_nil, or_false] at hi0
    rcases hi0 with rfl | rfl
    · refine wpOp_go rfl rfl (fun K hK => ?_)
      go_simp
      refine (HHC.out _).mono ?_
      rintro e w1 ⟨rfl, hb1⟩
      have hB1 := HB.out.trans (hb1.mono HB.out.size)
      refine hK _ _ ⟨hB1, ?_⟩
      clear hK K
      refine wpAnyH_all (rs := [9]) (by decide +kernel) (by simp) ?_
      intro i0 hi0
      obtain rfl := List.mem_singleton.1 hi0
      refine wpOp_go rfl rfl (fun K hK => ?_)
      have bX := Blk.new w1 61 z5
      have hB2 := hB1.alloc hB1.size (.cells z5 61)
      have bX1 : Blk ((w1.alloc (.cells z5 61)).setRow w1.heap.size (h5L E x).toArray) w1.heap.size 61 (h5L E x).toArray := setRow_same bX
      have hB3 := hB2.trans ((Only.setRow w1.heap.size (w1.alloc (.cells z5 61)) (h5L E x).toArray).below hB1.size)
      go_simp
      refine hK _ _ ⟨hB2, ?_⟩
      clear hK K
      refine wpAnyH_all (rs := [10]) (by decide +kernel) (by simp) ?_
      intro i0 hi0
      obtain rfl := List.mem_singleton.1 hi0
      refine wpOp_go rfl rfl (fun K hK => ?_)
      refine wp_store_row 61 (.tmp 7) (.tmp 16) rfl w1.heap.size (h5L E x).toArray rfl rfl 61 z5 bX info87 rfl (h5_all _ _) (hK _ _ ⟨hB3, ?_⟩)
      clear hK K
      refine wpAnyH_done (by decide +kernel) ?_ _
      exact ⟨rfl, _, _, _, _, _, _, _, _, _, _, rfl, bX1, hB3⟩
    · refine wpOp_go rfl rfl (fun K hK => ?_)
      have bX := Blk.new wa.drew 61 z5
      have hB1 := HB.out.alloc HB.out.size (.cells z5 61)
      have HBX := Lib.hid bX
      clear bX
      go_simp
      refine hK _ _ ⟨hB1, ?_⟩
      clear hK K
      refine wpAnyH_all (rs := [8]) (by decide +kernel) (by simp) ?_
      intro i0 hi0
      obtain rfl := List.mem_singleton.1 hi0
      refine wpOp_go rfl rfl (fun K hK => ?_)
      go_simp
      refine (HHC.out _).mono ?_
      rintro e w1 ⟨rfl, hb1⟩
      have hB2 := hB1.trans (hb1.mono hB1.size)
      have bX : Blk w1 wa.heap.size 61 z5 := HBX.out.below hb1 HBX.out.lt
      have bX1 : Blk (w1.setRow wa.heap.size (h5L E x).toArray) wa.heap.size 61 (h5L E x).toArray := setRow_same bX
      have hB3 := hB2.trans ((Only.setRow wa.heap.size w1 (h5L E x).toArray).below (Nat.le_refl _))
      refine hK _ _ ⟨hB2, ?_⟩
      clear hK K
      refine wpAnyH_all (rs := [10]) (by decide +kernel) (by simp) ?_
      intro i0 hi0
      obtain rfl := List.mem_singleton.1 hi0
      refine wpOp_go rfl rfl (fun K hK => ?_)
      refine wp_store_row 61 (.tmp 7) (.tmp 16) rfl wa.heap.size (h5L E x).toArray rfl rfl 61 z5 bX info87 rfl (h5_all _ _) (hK _ _ ⟨hB3, ?_⟩)
      clear hK K
      refine wpAnyH_done (by decide +kernel) ?_ _
      exact ⟨rfl, _, _, _, _, _, _, _, _, _, _, rfl, bX1, hB3⟩
end Go.Proofs.YtlfbfdhdkccaeaaGreat

