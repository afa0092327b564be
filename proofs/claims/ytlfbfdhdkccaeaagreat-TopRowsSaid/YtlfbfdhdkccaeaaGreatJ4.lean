/- slices.MaxFunc of runs; End, of the program; Cleanings, both. -/
import Derived.Test.YtlfbfdhdkccaeaaGreatJ3
namespace Go.Proofs.YtlfbfdhdkccaeaaGreat
open Go.RowKit Go.Shelf Go.Sort

abbrev z4 : Array Value := #[.int .i64 0, .int .i64 0, .int .i64 0, .bool false]
theorem rn_all (r : Pl.Rn) : (rnA r).all (·.oneCell') = true := by simp [Value.oneCell']
theorem st_rn {ops : Array Oper} {rest : List Oper} {o : Oper} {a : Act} {w : World} {Q : Exit → Act → World → Prop} {old : Array Value} {s : Pl.Rn} {g : Nat} {t : TypeId} (b : Blk w g t old) (hs : old.size = 4) (hgd : o.guard = none) (x y : Operand) (ho : o.op = .store 60 x y)
    (hx : a.eval x = .pointer (some ⟨g, 0, none⟩)) (hy : a.eval y = .agg (rnA s))
    (h : ∀ w', Blk w' g t (rnA s) → Only g w w' → wpList Tryz.prog ops Q rest (a.put o.dst undef) w') : wpList Tryz.prog ops Q (o :: rest) a w :=
  wpList_store_row hgd 60 x y ho g (rnA s) hx hy t old b infoRn hs (rn_all s) (h _ (setRow_same b) (Only.setRow g w (rnA s)))
theorem Blk.only {g k : Nat} {w w' : World} {t : TypeId} {cs : Array Value} (b : Blk w k t cs) (h : Only g w w') (hk : k ≠ g) : Blk w' k t cs := (h.block k hk).trans b
theorem results_cell1 {P : Program} {fn : Func} {p : Tmp} {ty : TypeId} (h : fn.results = #[.cell p ty]) (tmps : Array Value) (w : World) (g : Nat) (t : TypeId) (cs : Array Value) (fr : Nat × Nat) (d : TypeDesc)
    (hp : tmps.getD p undef = .pointer (some ⟨g, 0, none⟩)) (hg : w.heap[g]? = some (.cells cs t fr))
    (hu : P.underlying ty = some d) (hd : (match d with | .struct _ | .array _ _ => true | _ => false) = true) (hi : (P.info? ty).map (·.size) = some cs.size) :
    (results fn tmps).run P w = .ok (.agg cs) w := by
  have hp' : tmps[p]?.getD undef = .pointer (some ⟨g, 0, none⟩) := by simpa using hp
  simp [results, h, hp', asAddr, run_loadVar_row w g t ty cs fr d hg hu hd hi]

set_option maxRecDepth 100000 in
set_option maxHeartbeats 8000000 in
theorem maxf_b (b off : Nat) (xs : List Pl.Rn) (c n : Nat) (hn : xs.length = n) (h0 : 0 < n) (hn8 : n ≤ 1000) (w : World) (hX : Rows rnL 4 w (some ⟨b, off, none⟩) xs) :
    Calls Tryz.prog 31 #[.slice (some ⟨b, off, none⟩) n c, .func (.func 32) #[] #[]] w fun e w' => ∃ r, e = .returned (.agg (rnA r)) ∧ Pl.Mx xs r.t ∧ Below w.heap.size w w' := by
  obtain ⟨b', off', e, hb, hc⟩ := hX.open (by omega)
  cases e
  have HC := Lib.hid hc
  have HN := Lib.hid hn
  have eg : ∀ args w, (callFunc 32 args).run Tryz.prog w = .ok (.enter 32 args) w := enters_of Tryz.func32 (by kernel_rfl) rfl
  have r0 := rangeAt_below (hc 0 (by omega)) hb ((Below.refl w.heap.size w).alloc (Nat.le_refl _) (.cells z4 60))
  rw [Nat.zero_mul, Nat.add_zero] at r0
  obtain ⟨x0, hx0⟩ : ∃ x, xs[0]'(by omega) = x := ⟨_, rfl⟩
  have HX0 : Hid (x0 ∈ xs ∧ ∀ q (hq : q < xs.length), q < 1 → (xs[q]).t ≤ x0.t) := Lib.hid ⟨by rw [← hx0]; exact List.getElem_mem _, fun q hq h1 => by
    obtain rfl : q = 0 := by omega
    rw [hx0]; exact Int.le_refl _⟩
  rw [hx0] at r0
  have hnI : ¬ (n : Int) < 1 := by omega
  have h0I : (0 : Int) < (n : Int) := by omega
  obtain ⟨wB, hwB⟩ : ∃ wB, wB = (w.alloc (.cells z4 60)).alloc (.cells (rnA x0) 60) := ⟨_, rfl⟩
  have bM : Blk wB (w.heap.size + 1) 60 (rnA x0) := by
    rw [hwB]
    have := Blk.new (w.alloc (.cells z4 60)) 60 (rnA x0)
    simpa using this
  have bZ : Blk wB w.heap.size 60 z4 := by rw [hwB]; exact (Blk.new w 60 z4).alloc _
  have hBB : Below w.heap.size w wB := by rw [hwB]; exact ((Below.refl w.heap.size w).alloc (Nat.le_refl _) _).alloc (by simp) _
  have HM0 := Lib.hid bM
  have HZ0 := Lib.hid bZ
  have HB0 := Lib.hid hBB
  clear hc hn hX hx0 bM bZ hBB
  go_enter Tryz.func31, Tryz.ntmps31
  go_wp2_with (refine ldm_rn r0 rfl _ rfl rfl ?_)
  rw [← hwB]
  clear hwB r0
  go_loopw [6] (fun i wr => ∃ k : Nat, ∃ r, 1 ≤ k ∧ k ≤ n ∧ i = .int .i64 k ∧ Hid (r ∈ xs ∧ ∀ q (hq : q < xs.length), q < k → (xs[q]).t ≤ r.t) ∧ Blk wr (w.heap.size + 1) 60 (rnA r) ∧ Blk wr w.heap.size 60 z4 ∧ Below w.heap.size w wr) (fun i _ => n - (intOf i).toNat)
  case atStart => exact ⟨1, x0, Nat.le_refl _, h0, rfl, HX0, HM0.out, HZ0.out, HB0.out⟩
  case round =>
    obtain ⟨k, r, hk1, hk, rfl, hr, hM, hZ, hW⟩ := hrel
    obtain ⟨wo, rfl⟩ : ∃ wo, wo = wr := ⟨_, rfl⟩
    by_cases hlt : k < n
    · have hltI : (k : Int) < (n : Int) := by omega
      have hkx : k < xs.length := by rw [HN.out]; exact hlt
      have rk := rangeAt_below (HC.out k hkx) hb hW
      have HST : Hid (∀ q (hq : q < xs.length), q = k → xs[q] = xs[k]) := Lib.hid (fun q hq e => by subst e; rfl)
      have HMEM := Lib.hid (List.getElem_mem hkx)
      generalize xs[k] = y at *
      have hbo : b < wo.heap.size := Nat.lt_of_lt_of_le hb hW.size
      have hwo : w.heap.size + 1 < wo.heap.size := hM.lt
      have y0 := fun s : Ext wo => (rn_cells (ext_range s rk hbo)).1
      have y1 := fun s : Ext wo => (rn_cells (ext_range s rk hbo)).2.1
      have y2 := fun s : Ext wo => (rn_cells (ext_range s rk hbo)).2.2.1
      have y3 := fun s : Ext wo => (rn_cells (ext_range s rk hbo)).2.2.2
      have z0 := fun s : Ext wo => s.cell (p := ⟨w.heap.size + 1, 0, none⟩) ((hM.cell 0).trans rfl)
      have z1 := fun s : Ext wo => s.cell (p := ⟨w.heap.size + 1, 1, none⟩) ((hM.cell 1).trans rfl)
      have z2 := fun s : Ext wo => s.cell (p := ⟨w.heap.size + 1, 2, none⟩) ((hM.cell 2).trans rfl)
      have z3 := fun s : Ext wo => s.cell (p := ⟨w.heap.size + 1, 3, none⟩) ((hM.cell 3).trans rfl)
      have HM := Lib.hid hM
      have HZ := Lib.hid hZ
      have HRK := Lib.hid rk
      have HCL := Lib.hid (fun w => endc_b y r w)
      clear hM hZ rk
      by_cases hgt : r.t < y.t
      · have HCM : Hid (Pl.cmpI y.t r.t = 1) := Lib.hid (Pl.cmpI_gt hgt)
        rw [HCM.out] at HCL
        have HR : Hid (y ∈ xs ∧ ∀ q (hq : q < xs.length), q < k + 1 → (xs[q]).t ≤ y.t) := Lib.hid ⟨HMEM.out, fun q hq h => by
          rcases Nat.lt_succ_iff_lt_or_eq.1 h with h' | h'
          · have := hr.out.2 q hq h'; omega
          · rw [HST.out q hq h']; exact Int.le_refl _⟩
        clear hgt
        go_wp2
        refine wp_region_ext (by kernel_rfl) (by kernel_rfl) ?_
        repeat (go_big_quiet_step ((go_at_call 32; refine calls_ext (HCL.out _))))
        refine wpQuiet_nil ?_
        rintro _ ⟨s, rfl⟩
        have bM := HM.out.below s.h hwo
        have bZ := HZ.out.below s.h (by omega)
        have rk2 := ext_range s HRK.out hbo
        have hB2 := hW.trans (s.h.mono hW.size)
        have HZ2 := Lib.hid bZ
        have HB2 := Lib.hid hB2
        clear y0 y1 y2 y3 z0 z1 z2 z3 bZ hB2
        go_wp2_with (first | refine ldm_rn rk2 rfl _ rfl rfl ?_ | (refine st_rn bM rfl rfl _ _ rfl rfl rfl ?_; intro w9 hM9 hO9))
        have hZ9 := HZ2.out.only hO9 (by omega)
        have hB9 := HB2.out.trans (hO9.below (B := w.heap.size) (by omega))
        clear bM rk2 hO9
        go_roundw
        case rel => exact ⟨k + 1, y, by omega, by omega, by go_num, HR, hM9, hZ9, hB9⟩
        case measure => simp [intOf]; omega
      · have HCM : Hid (Pl.cmpI y.t r.t = 0 ∨ Pl.cmpI y.t r.t = -1) := Lib.hid (by
          rcases Int.lt_or_eq_of_le (Int.not_lt.1 hgt) with h | h
          · exact .inr (Pl.cmpI_lt h)
          · exact .inl (Pl.cmpI_eq h))
        have HR : Hid (r ∈ xs ∧ ∀ q (hq : q < xs.length), q < k + 1 → (xs[q]).t ≤ r.t) := Lib.hid ⟨hr.out.1, fun q hq h => by
          rcases Nat.lt_succ_iff_lt_or_eq.1 h with h' | h'
          · exact hr.out.2 q hq h'
          · rw [HST.out q hq h']; omega⟩
        have HNP : Hid (decide (0 < Pl.cmpI y.t r.t) = false) := Lib.hid (decide_eq_false (by rcases HCM.out with h | h <;> omega))
        clear hgt
        generalize Pl.cmpI y.t r.t = z at HCL HNP
        have hnp := HNP.out
        have hnp2 : ¬ 0 < z := of_decide_eq_false hnp
        go_wp2
        refine wp_region_ext (by kernel_rfl) (by kernel_rfl) ?_
        repeat (go_big_quiet_step ((go_at_call 32; refine calls_ext (HCL.out _))))
        refine wpQuiet_nil ?_
        rintro _ ⟨s, rfl⟩
        have hM9 := HM.out.below s.h hwo
        have hZ9 := HZ.out.below s.h (by omega)
        have hB9 := hW.trans (s.h.mono hW.size)
        clear y0 y1 y2 y3 z0 z1 z2 z3
        go_wp2
        go_roundw
        case rel => exact ⟨k + 1, r, by omega, by omega, by go_num, HR, hM9, hZ9, hB9⟩
        case measure => simp [intOf]; omega
    · obtain rfl : k = n := by omega
      have HE : Hid (Pl.Mx xs r.t) := Lib.hid (.inr ⟨⟨r, hr.out.1, rfl⟩, fun y hy => by
        obtain ⟨q, hq, rfl⟩ := List.getElem_of_mem hy
        exact hr.out.2 q hq (by rw [← HN.out]; exact hq)⟩)
      have rr := hM.rn
      have HWB := Lib.hid hW
      have hwo : w.heap.size < wo.heap.size := hZ.lt
      clear hr hW
      go_wp2_with (first | refine ldm_rn rr rfl _ rfl rfl ?_ | (refine st_rn hZ rfl rfl _ _ rfl rfl rfl ?_; intro w9 hM9 hO9))
      have hB9 := HWB.out.trans (hO9.below (B := w.heap.size) (Nat.le_refl _))
      exact bodyPost_ret (v := .agg (rnA r)) (results_cell1 Tryz.results31 _ _ w.heap.size 60 (rnA r) (0, 0) _ rfl hM9 Tryz.underlying60 rfl infoRn) rfl ⟨r, rfl, HE.out, hB9⟩
end Go.Proofs.YtlfbfdhdkccaeaaGreat

