/- The needs of a head, and their sum. -/
import Derived.Test.YtghbipipehglfaaDoorA3
namespace Go.Proofs.YtghbipipehglfaaDoor
open Go.RowKit Go.Shelf

/-- nothing has turned but block g -/
structure Only (g : Nat) (w w' : World) : Prop where
  os : w'.os = w.os
  tape : w'.tape = w.tape
  output : w'.output = w.output
  size : w'.heap.size = w.heap.size
  block : ∀ k, k ≠ g → w'.heap[k]? = w.heap[k]?
theorem Only.refl (g : Nat) (w : World) : Only g w w := ⟨rfl, rfl, rfl, rfl, fun _ _ => rfl⟩
theorem Only.trans {g : Nat} {w w' w'' : World} (h : Only g w w') (k : Only g w' w'') : Only g w w'' := ⟨k.os.trans h.os, k.tape.trans h.tape, k.output.trans h.output, k.size.trans h.size, fun j hj => (k.block j hj).trans (h.block j hj)⟩
theorem Only.setRow (g : Nat) (w : World) (cs : Array Value) : Only g w (w.setRow g cs) := ⟨rfl, rfl, rfl, by simp [World.setRow], fun k hk => setRow_other w g k cs hk⟩
theorem Only.setCell (g : Nat) (w : World) (i : Nat) (u : Value) : Only g w (w.setCell ⟨g, i, none⟩ u) := ⟨rfl, rfl, rfl, by simp [World.setCell], fun k hk => Below.heap_setCell w ⟨g, i, none⟩ u k hk⟩
theorem Only.below {g B : Nat} {w w' : World} (h : Only g w w') (hB : B ≤ g) : Below B w w' := ⟨h.os, h.tape, h.output, by rw [h.size]; exact Nat.le_refl _, fun k hk => h.block k (by omega)⟩
theorem Blk.only {g k : Nat} {w w' : World} {t : TypeId} {cs : Array Value} (b : Blk w k t cs) (h : Only g w w') (hk : k ≠ g) : Blk w' k t cs := (h.block k hk).trans b

theorem st_row {ty : TypeId} {ops : Array Oper} {rest : List Oper} {o : Oper} {a : Act} {w : World} {Q : Exit → Act → World → Prop} {old new : Array Value} {g : Nat} {t : TypeId} (b : Blk w g t old) (hgd : o.guard = none) (x y : Operand) (ho : o.op = .store ty x y)
    (hx : a.eval x = .pointer (some ⟨g, 0, none⟩)) (hy : a.eval y = .agg new) (hi : (Tryd.prog.info? ty).map (·.size) = some new.size) (hs : old.size = new.size) (h1 : new.all (·.oneCell') = true)
    (h : ∀ w', Blk w' g t new → Only g w w' → wpList Tryd.prog ops Q rest (a.put o.dst undef) w') : wpList Tryd.prog ops Q (o :: rest) a w :=
  wpList_store_row hgd ty x y ho g new hx hy t old b hi hs h1 (h _ (setRow_heap w g old new t (0, 0) b) (Only.setRow g w new))

theorem results_cell_tmp {P : Program} {fn : Func} {p q : Tmp} {ty : TypeId} (h : fn.results = #[.cell p ty, .tmp q]) (tmps : Array Value) (w : World) (g : Nat) (t : TypeId) (cs : Array Value) (fr : Nat × Nat) (d : TypeDesc)
    (hp : tmps.getD p undef = .pointer (some ⟨g, 0, none⟩)) (hg : w.heap[g]? = some (.cells cs t fr))
    (hu : P.underlying ty = some d) (hd : (match d with | .struct _ | .array _ _ => true | _ => false) = true) (hi : (P.info? ty).map (·.size) = some cs.size) :
    (results fn tmps).run P w = .ok (.tuple #[.agg cs, tmps.getD q undef]) w := by
  have hp' : tmps[p]?.getD undef = .pointer (some ⟨g, 0, none⟩) := by simpa using hp
  simp [results, h, hp', asAddr, run_loadVar_row w g t ty cs fr d hg hu hd hi]
theorem a5A_one (f : Nat → Int) : (a5A f).all (·.oneCell') = true := by simp [a5A, Value.oneCell']
theorem szA_one (s : Pl.Sz) : (szA s).all (·.oneCell') = true := by simp [szA, Value.oneCell']
theorem hdA_one (s : Pl.Hd) : (hdA s).all (·.oneCell') = true := by simp [hdA, Value.oneCell']
theorem st_five {ops : Array Oper} {rest : List Oper} {o : Oper} {a : Act} {w : World} {Q : Exit → Act → World → Prop} {old : Array Value} {f : Nat → Int} {g : Nat} {t : TypeId} (b : Blk w g t old) (hs : old.size = 5) (hgd : o.guard = none) (x y : Operand) (ho : o.op = .store 32 x y)
    (hx : a.eval x = .pointer (some ⟨g, 0, none⟩)) (hy : a.eval y = .agg (a5A f))
    (h : ∀ w', Blk w' g t (a5A f) → Only g w w' → wpList Tryd.prog ops Q rest (a.put o.dst undef) w') : wpList Tryd.prog ops Q (o :: rest) a w :=
  st_row b hgd x y ho hx hy info22 hs (a5A_one f) h
theorem st_size {ops : Array Oper} {rest : List Oper} {o : Oper} {a : Act} {w : World} {Q : Exit → Act → World → Prop} {old : Array Value} {s : Pl.Sz} {g : Nat} {t : TypeId} (b : Blk w g t old) (hs : old.size = 17) (hgd : o.guard = none) (x y : Operand) (ho : o.op = .store 46 x y)
    (hx : a.eval x = .pointer (some ⟨g, 0, none⟩)) (hy : a.eval y = .agg (szA s))
    (h : ∀ w', Blk w' g t (szA s) → Only g w w' → wpList Tryd.prog ops Q rest (a.put o.dst undef) w') : wpList Tryd.prog ops Q (o :: rest) a w :=
  st_row b hgd x y ho hx hy info24 hs (szA_one s) h
theorem a5A_upd (f : Nat → Int) {k : Nat} (hk : k < 5) (v : Int) : (a5A f).setIfInBounds k (.int .i64 v) = a5A (fun i => if i = k then v else f i) :=
  five (p := fun k => (a5A f).setIfInBounds k (.int .i64 v) = a5A (fun i => if i = k then v else f i)) hk rfl rfl rfl rfl rfl
theorem a5A_ext {f g : Nat → Int} (h : ∀ i, i < 5 → f i = g i) : a5A f = a5A g := by
  simp only [a5A, h 0 (by omega), h 1 (by omega), h 2 (by omega), h 3 (by omega), h 4 (by omega)]

/-- the first k needs -/
def prt (s : Pl.Sz) (h : Pl.Hd) (k i : Nat) : Int := if i < k then Pl.nd s h i else 0
theorem prt_zero (s : Pl.Sz) (h : Pl.Hd) : (a5A (prt s h 0)) = #[.int .i64 0, .int .i64 0, .int .i64 0, .int .i64 0, .int .i64 0] := rfl
theorem prt_step (s : Pl.Sz) (h : Pl.Hd) {k : Nat} (hk : k < 5) : (a5A (prt s h k)).setIfInBounds k (.int .i64 (Pl.nd s h k)) = a5A (prt s h (k + 1)) := by
  rw [a5A_upd _ hk]
  refine a5A_ext fun i _ => ?_
  unfold prt
  by_cases e : i = k
  · rw [if_pos e, if_pos (by omega), e]
  · rw [if_neg e]
    by_cases e2 : i < k
    · rw [if_pos e2, if_pos (by omega)]
    · rw [if_neg e2, if_neg (by omega)]
theorem prt_all (s : Pl.Sz) (h : Pl.Hd) : a5A (prt s h 5) = a5A (Pl.nd s h) := a5A_ext fun _ hi => if_pos hi

theorem nd_if (s : Pl.Sz) (h : Pl.Hd) (k : Nat) : (if (if s.fr k - h.m k < h.m k - s.up k then h.m k - s.up k else s.fr k - h.m k) < 0 then 0 else if s.fr k - h.m k < h.m k - s.up k then h.m k - s.up k else s.fr k - h.m k) = Pl.nd s h k := by
  unfold Pl.nd
  split <;> split <;> omega

set_option maxRecDepth 100000 in
set_option maxHeartbeats 2000000 in
theorem needs_any (s : Pl.Sz) (h : Pl.Hd) (hs : Pl.vsz s = true) (hh : Pl.vh h = true) (w : World) :
    Calls Tryd.prog 49 #[.agg (szA s), .agg (hdA h)] w fun e w' => e = .returned (.agg (a5A (Pl.nd s h))) ∧ Below w.heap.size w w' := by
  have HS := Lib.hid (Pl.vsz_true.1 hs)
  have HH := Lib.hid (Pl.vh_true.1 hh)
  clear hs hh
  have hB0 := ((((Below.refl w.heap.size w).alloc (Nat.le_refl _) (.cells (szA s) 46)).alloc (by simp) (.cells (hdA h) 34)).alloc (by simp; omega) (.cells #[.int .i64 0, .int .i64 0, .int .i64 0, .int .i64 0, .int .i64 0] 32)).alloc (by simp; omega) (.cells #[.int .i64 0, .int .i64 0, .int .i64 0, .int .i64 0, .int .i64 0] 32)
  go_enter Tryd.func49, Tryd.ntmps49
  go_wp2_with fail
  have bS := (((Blk.new w 46 (szA s)).alloc (.cells (hdA h) 34)).alloc (.cells #[.int .i64 0, .int .i64 0, .int .i64 0, .int .i64 0, .int .i64 0] 32)).alloc (.cells #[.int .i64 0, .int .i64 0, .int .i64 0, .int .i64 0, .int .i64 0] 32)
  have bR := (Blk.new ((w.alloc (.cells (szA s) 46)).alloc (.cells (hdA h) 34)) 32 #[.int .i64 0, .int .i64 0, .int .i64 0, .int .i64 0, .int .i64 0]).alloc (.cells #[.int .i64 0, .int .i64 0, .int .i64 0, .int .i64 0, .int .i64 0] 32)
  have bL := Blk.new (((w.alloc (.cells (szA s) 46)).alloc (.cells (hdA h) 34)).alloc (.cells #[.int .i64 0, .int .i64 0, .int .i64 0, .int .i64 0, .int .i64 0] 32)) 32 (a5A (prt s h 0))
  simp only [World.size_alloc] at bR bL
  go_loopw [6, 7, 10] (fun _ _ i wr => ∃ k : Nat, k ≤ 5 ∧ i = .int .i64 k ∧ Blk wr w.heap.size 46 (szA s) ∧ Blk wr (w.heap.size + 1 + 1) 32 #[.int .i64 0, .int .i64 0, .int .i64 0, .int .i64 0, .int .i64 0] ∧ Blk wr (w.heap.size + 1 + 1 + 1) 32 (a5A (prt s h k)) ∧ Below w.heap.size w wr) (fun _ _ i _ => 5 - (intOf i).toNat)
  case atStart => exact ⟨0, by omega, rfl, bS, bR, bL, hB0⟩
  case round =>
    clear bS bR bL hB0
    obtain ⟨k, hk, rfl, bS, bR, bL, hB⟩ := hrel
    by_cases hlt : k < 5
    · have hix := idx5 h.m hlt
      have q1 := bS.fr hlt
      have q2 := bS.up hlt
      have q3 := bL.at5 hlt
      have q4 := bL.frozen k
      have HBL := Lib.hid bL
      obtain ⟨a1, a2, a3, _, _⟩ := HS.out.1 k hlt
      obtain ⟨a4, a5⟩ := HH.out.1 k hlt
      have HM := Lib.hid (nd_if s h k)
      clear bL
      go_wp2
      go_region
      go_wp2
      rw [HM.out]
      have bS2 := (bS.far (p := ⟨w.heap.size + 1 + 1 + 1, k, none⟩) (by simp; omega) (.int .i64 (Pl.nd s h k))).drew
      have bR2 := (bR.far (p := ⟨w.heap.size + 1 + 1 + 1, k, none⟩) (by simp) (.int .i64 (Pl.nd s h k))).drew
      have bL2 := (HBL.out.set_ k (.int .i64 (Pl.nd s h k))).drew
      rw [prt_step s h hlt] at bL2
      have hB2 := (hB.setCell (p := ⟨w.heap.size + 1 + 1 + 1, k, none⟩) (by simp; omega) (.int .i64 (Pl.nd s h k))).drew
      go_roundw
      case rel => exact ⟨k + 1, by omega, by go_num, bS2, bR2, bL2, hB2⟩
      case measure => simp [intOf]; omega
    · obtain rfl : k = 5 := by omega
      rw [prt_all] at bL
      clear bS
      go_wp2_with (first | refine ld_five bL rfl _ rfl rfl ?_ | (refine st_five bR rfl rfl _ _ rfl rfl rfl ?_; intro w2 bR2 hO))
      have hB2 := hB.trans (hO.below (B := w.heap.size) (by omega))
      exact bodyPost_ret (results_cell_row rfl _ _ _ _ _ _ _ rfl bR2 Tryd.underlying32 rfl info22) rfl ⟨rfl, hB2⟩

set_option maxRecDepth 100000 in
set_option maxHeartbeats 2000000 in
theorem sum_any (f : Nat → Int) (hf : ∀ i, i < 5 → 0 ≤ f i ∧ f i ≤ 3000) (w : World) :
    Calls Tryd.prog 48 #[.agg (a5A f)] w fun e w' => e = .returned (.int .i64 (Pl.sumK f 5)) ∧ Below w.heap.size w w' := by
  have HF := Lib.hid hf
  clear hf
  have hB0 := (Below.refl w.heap.size w).alloc (Nat.le_refl _) (.cells (a5A f) 32)
  have bF := Blk.new w 32 (a5A f)
  go_enter Tryd.func48, Tryd.ntmps48
  go_wp2_with (refine ld_five bF rfl _ rfl rfl ?_)
  go_loop [3, 5, 7] (fun t _ i => ∃ k : Nat, k ≤ 5 ∧ i = .int .i64 k ∧ t = .int .i64 (Pl.sumK f k)) (fun _ _ i => 5 - (intOf i).toNat)
  case atStart => exact ⟨0, by omega, rfl, rfl⟩
  case round =>
    obtain ⟨k, hk, rfl, rfl⟩ := hrel
    by_cases hlt : k < 5
    · have hix := idx5 f hlt
      obtain ⟨a1, a2⟩ := HF.out k hlt
      obtain ⟨a3, a4⟩ := Pl.sumK_bd (k := k) (fun i hi => HF.out i (by omega))
      go_wp2
      go_round
      case rel => exact ⟨k + 1, by omega, by go_num, rfl⟩
      case measure => simp [intOf]; omega
    · obtain rfl : k = 5 := by omega
      go_wp2
      go_ret
      exact ⟨rfl, hB0⟩

set_option maxRecDepth 100000 in
set_option maxHeartbeats 4000000 in
theorem rneed_any (s : Pl.Sz) (h : Pl.Hd) (hs : Pl.vsz s = true) (hh : Pl.vh h = true) (w : World) :
    Calls Tryd.prog 50 #[.agg (szA s), .agg (hdA h)] w fun e w' => e = .returned (.tuple #[.agg (a5A (Pl.nd s h)), .int .i64 (Pl.sumK (Pl.nd s h) 5)]) ∧ Below w.heap.size w w' := by
  have HN := Lib.hid (fun k (hk : k < 5) => Pl.nd_bd hs hh hk)
  have HS := Lib.hid (Pl.vsz_true.1 hs)
  have HH := Lib.hid (Pl.vh_true.1 hh)
  clear hs hh
  have hB0 := ((((Below.refl w.heap.size w).alloc (Nat.le_refl _) (.cells (szA s) 46)).alloc (by simp) (.cells (hdA h) 34)).alloc (by simp; omega) (.cells #[.int .i64 0, .int .i64 0, .int .i64 0, .int .i64 0, .int .i64 0] 32)).alloc (by simp; omega) (.cells #[.int .i64 0, .int .i64 0, .int .i64 0, .int .i64 0, .int .i64 0] 32)
  go_enter Tryd.func50, Tryd.ntmps50
  go_wp2_with fail
  have bS := (((Blk.new w 46 (szA s)).alloc (.cells (hdA h) 34)).alloc (.cells #[.int .i64 0, .int .i64 0, .int .i64 0, .int .i64 0, .int .i64 0] 32)).alloc (.cells #[.int .i64 0, .int .i64 0, .int .i64 0, .int .i64 0, .int .i64 0] 32)
  have bR := (Blk.new ((w.alloc (.cells (szA s) 46)).alloc (.cells (hdA h) 34)) 32 #[.int .i64 0, .int .i64 0, .int .i64 0, .int .i64 0, .int .i64 0]).alloc (.cells #[.int .i64 0, .int .i64 0, .int .i64 0, .int .i64 0, .int .i64 0] 32)
  have bL := Blk.new (((w.alloc (.cells (szA s) 46)).alloc (.cells (hdA h) 34)).alloc (.cells #[.int .i64 0, .int .i64 0, .int .i64 0, .int .i64 0, .int .i64 0] 32)) 32 (a5A (prt s h 0))
  simp only [World.size_alloc] at bR bL
  go_loopw [7, 8, 9, 12] (fun t _ _ i wr => ∃ k : Nat, k ≤ 5 ∧ i = .int .i64 k ∧ t = .int .i64 (Pl.sumK (Pl.nd s h) k) ∧ Blk wr w.heap.size 46 (szA s) ∧ Blk wr (w.heap.size + 1 + 1) 32 #[.int .i64 0, .int .i64 0, .int .i64 0, .int .i64 0, .int .i64 0] ∧ Blk wr (w.heap.size + 1 + 1 + 1) 32 (a5A (prt s h k)) ∧ Below w.heap.size w wr) (fun _ _ _ i _ => 5 - (intOf i).toNat)
  case atStart => exact ⟨0, by omega, rfl, rfl, bS, bR, bL, hB0⟩
  case round =>
    clear bS bR bL hB0
    obtain ⟨k, hk, rfl, rfl, bS, bR, bL, hB⟩ := hrel
    by_cases hlt : k < 5
    · have hix := idx5 h.m hlt
      have q1 := bS.fr hlt
      have q2 := bS.up hlt
      have q3 := bL.at5 hlt
      have q4 := bL.frozen k
      have HBL := Lib.hid bL
      obtain ⟨a1, a2, a3, _, _⟩ := HS.out.1 k hlt
      obtain ⟨a4, a5⟩ := HH.out.1 k hlt
      obtain ⟨a6, a7⟩ := HN.out k hlt
      obtain ⟨a8, a9⟩ := Pl.sumK_bd (k := k) (fun i hi => HN.out i (by omega))
      have HM := Lib.hid (nd_if s h k)
      clear bL
      go_wp2
      go_region
      rw [HM.out]
      have bS2 := (bS.far (p := ⟨w.heap.size + 1 + 1 + 1, k, none⟩) (by simp; omega) (.int .i64 (Pl.nd s h k))).drew
      have bR2 := (bR.far (p := ⟨w.heap.size + 1 + 1 + 1, k, none⟩) (by simp) (.int .i64 (Pl.nd s h k))).drew
      have bL2 := (HBL.out.set_ k (.int .i64 (Pl.nd s h k))).drew
      rw [prt_step s h hlt] at bL2
      have hB2 := (hB.setCell (p := ⟨w.heap.size + 1 + 1 + 1, k, none⟩) (by simp; omega) (.int .i64 (Pl.nd s h k))).drew
      have q5 := bL2.at5 hlt
      rw [show prt s h (k + 1) k = Pl.nd s h k from if_pos (by omega)] at q5
      clear q1 q2 q3 q4
      generalize (wr.setCell ⟨w.heap.size + 1 + 1 + 1, k, none⟩ (.int .i64 (Pl.nd s h k))).drew = W2 at *
      go_wp2
      go_roundw
      case rel => exact ⟨k + 1, by omega, by go_num, rfl, bS2, bR2, bL2, hB2⟩
      case measure => simp [intOf]; omega
    · obtain rfl : k = 5 := by omega
      rw [prt_all] at bL
      clear bS
      go_wp2_with (first | refine ld_five bL rfl _ rfl rfl ?_ | (refine st_five bR rfl rfl _ _ rfl rfl rfl ?_; intro w2 bR2 hO))
      have hB2 := hB.trans (hO.below (B := w.heap.size) (by omega))
      exact bodyPost_ret (results_cell_tmp rfl _ _ _ _ _ _ _ rfl bR2 Tryd.underlying32 rfl info22) rfl ⟨rfl, hB2⟩
end Go.Proofs.YtghbipipehglfaaDoor
