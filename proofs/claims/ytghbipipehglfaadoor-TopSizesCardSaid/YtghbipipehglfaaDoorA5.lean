/- What does not fit: the program's and the document's. -/
import Derived.Test.YtghbipipehglfaaDoorA4
namespace Go.Proofs.YtghbipipehglfaaDoor
open Go.RowKit Go.Shelf

/-- append(list, n) -/
theorem ap_int {ops : Array Oper} {rest : List Oper} {o : Oper} {a : Act} {Q : Exit → Act → World → Prop} {w : World} {base : Nat} {v : Value} {l : List Int} (hown : w.ownsRow base 3 1 v l.length (ints l)) (hgd : o.guard = none) (s x : Operand)
    (ho : o.op = .call { callee := .builtin .append, args := #[s, x], argTypes := #[31, 31] }) (hs : a.eval s = v) (g : Nat) (n : Int) (hx : a.eval x = .slice (some ⟨g, 0, none⟩) 1 1)
    (hc : w.cell? ⟨g, 0, none⟩ = some (.int .i64 n)) (hlen : l.length ≤ 100000) (hbase : base ≤ w.heap.size)
    (h : ∀ v' w', w'.ownsRow base 3 1 v' (l ++ [n]).length (ints (l ++ [n])) → w.grownBy w' v.ownBlock → wpList Tryd.prog ops Q rest (a.put o.dst v') w') : wpList Tryd.prog ops Q (o :: rest) a w := by
  obtain ⟨i0, hi, hz0, hz1, hz2⟩ := info_parts info3
  refine wpList_append_own w hgd s x 31 ho base 3 i0 (.int .i64 0) 1 8 Tryd.underlying31 hi hz0 hz1 hz2 rfl (by decide) v l.length (ints l) hs hown ⟨g, 0, none⟩ 1 1 [.int .i64 n] hx rfl ?_ ?_ ?_ (by omega) hbase ?_
  · intro j u hj
    cases j with
    | zero => simp at hj; subst hj; exact hc
    | succ j => simp at hj
  · intro u hu
    rw [List.mem_singleton.1 hu]; rfl
  · unfold maxLen; omega
  · intro v' w' h1 h2 _
    refine h v' w' ?_ h2
    simpa [ints] using h1
theorem own_keep {w w' : World} {B : Nat} {v : Value} {e : TypeId} {size n : Nat} {xs : List Value} (h : w.ownsRow B e size v n xs) (hb : Below w.heap.size w w') : w'.ownsRow B e size v n xs := by
  refine h.kept (row := none) ⟨hb.os, hb.tape, hb.output, hb.size, fun k hk _ => hb.block k hk⟩ ?_
  rcases hv : v.ownBlock with _ | g
  · exact .inl rfl
  · exact .inr (by simp)
theorem own_mono {w : World} {B C : Nat} {v : Value} {e : TypeId} {size n : Nat} {xs : List Value} (h : w.ownsRow B e size v n xs) (hb : C ≤ B) : w.ownsRow C e size v n xs := by
  obtain ⟨h1, h2 | ⟨g, cap, cur, h3, h4, h5⟩⟩ := h
  · exact ⟨h1, .inl h2⟩
  · exact ⟨h1, .inr ⟨g, cap, cur, h3, Nat.le_trans hb h4, h5⟩⟩
theorem Blk.grew {w w' : World} {g : Nat} {t E : TypeId} {cs : Array Value} {base size n : Nat} {v : Value} {xs : List Value} (b : Blk w g t cs) (ho : w.ownsRow base E size v n xs) (hg : w.grownBy w' v.ownBlock) (hne : g < base ∨ t ≠ E) : Blk w' g t cs := by
  refine (hg.block g b.lt fun e => ?_).trans b
  rcases hne with h | h
  · have := (ho.lt g e.symm).1; omega
  · rcases ho.2 with ⟨rfl, _⟩ | ⟨k, cap, cur, rfl, _, hk, _⟩
    · simp [Value.ownBlock] at e
    · obtain rfl : g = k := by simpa [Value.ownBlock] using e
      rw [show w.heap[g]? = _ from b] at hk
      cases hk
      exact h rfl

set_option maxRecDepth 100000 in
set_option maxHeartbeats 4000000 in
theorem faults_any (s : Pl.Sz) (h : Pl.Hd) (hs : Pl.vsz s = true) (hh : Pl.vh h = true) (w : World) :
    Calls Tryd.prog 77 #[.agg (szA s), .agg (hdA h)] w fun e w' => ∃ v, e = .returned v ∧ w'.ownsRow w.heap.size 3 1 v (Pl.flt s h).length (ints (Pl.flt s h)) ∧ Below w.heap.size w w' := by
  have HN := Lib.hid (fun k (hk : k < 5) => Pl.nd_bd hs hh hk)
  have HS := Lib.hid (Pl.vsz_true.1 hs)
  have HH := Lib.hid hh
  have HSS := Lib.hid hs
  clear hs hh
  have hB0 := ((Below.refl w.heap.size w).alloc (Nat.le_refl _) (.cells (szA s) 46)).alloc (by simp) (.cells (hdA h) 34)
  have bS := (Blk.new w 46 (szA s)).alloc (.cells (hdA h) 34)
  have bH := Blk.new (w.alloc (.cells (szA s) 46)) 34 (hdA h)
  rw [World.size_alloc] at bH
  have hbl := bS.lt
  go_enter Tryd.func77, Tryd.ntmps77
  go_wp2_with (first | refine ld_size bS rfl _ rfl rfl ?_ | refine ld_head bH rfl _ rfl rfl ?_ | fail)
  refine (needs_any s h HSS.out HH.out _).mono ?_
  rintro e w1 ⟨rfl, hb1⟩
  have hB1 := hB0.trans (hb1.mono hB0.size)
  have bS1 := bS.below hb1 hbl
  have hSl : w.heap.size < w1.heap.size := by have := hb1.size; simp at this; omega
  have bN := Blk.new w1 32 #[.int .i64 0, .int .i64 0, .int .i64 0, .int .i64 0, .int .i64 0]
  have bS2 := bS1.alloc (.cells #[.int .i64 0, .int .i64 0, .int .i64 0, .int .i64 0, .int .i64 0] 32)
  have hB2 := hB1.alloc hB1.size (.cells #[.int .i64 0, .int .i64 0, .int .i64 0, .int .i64 0, .int .i64 0] 32)
  clear hB0 bS bH hbl hb1 hB1 bS1
  go_wp2_with (first | (refine st_five (f := Pl.nd s h) bN rfl rfl _ _ rfl rfl rfl ?_; intro w2 bN2 hO; have bS3 := bS2.only hO (by omega); have hB3 := hB2.trans (hO.below (B := w.heap.size) (by omega)); clear hO bS2 hB2 bN) | refine ld_five bN2 rfl _ rfl rfl ?_)
  generalize w1.heap.size = S at *
  go_loopw [6, 7, 8, 13] (fun v _ _ i wr => ∃ k : Nat, k ≤ 5 ∧ i = .int .i64 k ∧ wr.ownsRow w.heap.size 3 1 v (Pl.fltK s h k).length (ints (Pl.fltK s h k)) ∧ Blk wr w.heap.size 46 (szA s) ∧ Blk wr S 32 (a5A (Pl.nd s h)) ∧ Below w.heap.size w wr) (fun _ _ _ i _ => 5 - (intOf i).toNat)
  case atStart => exact ⟨0, by omega, rfl, World.ownsRow_nil _ _ _ _, bS3, bN2, hB3⟩
  case round =>
    clear bS3 bN2 hB3
    obtain ⟨k, hk, rfl, hown, bS, bN, hB⟩ := hrel
    by_cases hlt : k < 5
    · have hix := idx5 (Pl.nd s h) hlt
      have q1 := bS.bd hlt
      have hkl := Pl.fltK_len s h k
      by_cases hc : s.bd k < Pl.nd s h k
      · have HM := Lib.hid ((Pl.fltK_succ s h k).trans (if_pos hc))
        go_wp2_with (at_builtin; refine ap_int (n := (k : Int)) (hown.alloc _) rfl _ _ rfl rfl _ rfl ((Blk.new _ _ _).cell 0) (by omega) (by have := hB.size; simp; omega) ?_; intro v' w3 hown' hgrow; have bS2 := (bS.alloc _).grew (hown.alloc _) hgrow (.inr (by decide)); have bN2 := (bN.alloc _).grew (hown.alloc _) hgrow (.inr (by decide)); have hB2 := (hB.alloc hB.size _).grown hgrow (by have := hB.size; simp; omega) (fun k e => (hown.lt k e).1))
        go_roundw
        case rel => exact ⟨k + 1, by omega, by go_num, by rw [HM.out]; exact hown', bS2, bN2, hB2⟩
        case measure => simp [intOf]; omega
      · have HM := Lib.hid ((Pl.fltK_succ s h k).trans (if_neg hc))
        have hc' : Pl.nd s h k ≤ s.bd k := by omega
        clear hc
        go_wp2
        go_roundw
        case rel => exact ⟨k + 1, by omega, by go_num, by rw [HM.out]; exact hown, bS, bN, hB⟩
        case measure => simp [intOf]; omega
    · obtain rfl : k = 5 := by omega
      have q0 := bN.cell 0
      have q1 := bN.cell 1
      have q2 := bN.cell 2
      have q3 := bN.cell 3
      have q4 := bN.cell 4
      simp only [a5A, List.getElem?_toArray, List.getElem?_cons_zero, List.getElem?_cons_succ] at q0 q1 q2 q3 q4
      have z0 := fun e : Ext wr => e.cell q0
      have z1 := fun e : Ext wr => e.cell q1
      have z2 := fun e : Ext wr => e.cell q2
      have z3 := fun e : Ext wr => e.cell q3
      have z4 := fun e : Ext wr => e.cell q4
      have z5 := fun e : Ext wr => e.cell bS.tot
      have hsum := Pl.sumK_bd (k := 5) (fun i hi => HN.out i (by omega))
      clear q0 q1 q2 q3 q4
      go_wp2
      refine wp_region_ext (by kernel_rfl) (by kernel_rfl) ?_
      repeat (go_big_quiet_step ((go_at_call 48; refine calls_ext (sum_any _ HN.out _))))
      refine wpQuiet_nil ?_
      rintro _ ⟨e, rfl⟩
      have hown2 := own_keep hown e.h
      have hB2 := hB.trans (e.h.mono hB.size)
      have hfl := Pl.fltK_len s h 5
      generalize e.w = W2 at *
      clear z0 z1 z2 z3 z4 z5 bS bN hB hown e hlt
      by_cases hc : s.tot < Pl.sumK (Pl.nd s h) 5
      · have e1 : decide (s.tot < Pl.sumK (Pl.nd s h) 5) = true := decide_eq_true hc
        have HM : Hid (Pl.flt s h = Pl.fltK s h 5 ++ [5]) := Lib.hid (if_pos hc)
        rw [e1]
        clear e1 hc
        go_wp2_with (at_builtin; refine ap_int (n := 5) (hown2.alloc _) rfl _ _ rfl rfl _ rfl ((Blk.new _ _ _).cell 0) (by omega) (by have := hB2.size; simp; omega) ?_; intro v' w3 hown' hgrow; have hB3 := (hB2.alloc hB2.size _).grown hgrow (by have := hB2.size; simp; omega) (fun k e => (hown2.lt k e).1))
        go_ret
        exact ⟨_, rfl, by rw [HM.out]; exact hown', hB3⟩
      · have e1 : decide (s.tot < Pl.sumK (Pl.nd s h) 5) = false := decide_eq_false hc
        have HM : Hid (Pl.flt s h = Pl.fltK s h 5) := Lib.hid (if_neg hc)
        rw [e1]
        clear e1 hc
        go_wp2
        go_ret
        exact ⟨_, rfl, by rw [HM.out]; exact hown2, hB2⟩

set_option maxRecDepth 100000 in
set_option maxHeartbeats 4000000 in
theorem rfaults_any (s : Pl.Sz) (h : Pl.Hd) (hs : Pl.vsz s = true) (hh : Pl.vh h = true) (w : World) :
    Calls Tryd.prog 76 #[.agg (szA s), .agg (hdA h)] w fun e w' => ∃ v, e = .returned v ∧ w'.ownsRow w.heap.size 3 1 v (Pl.flt s h).length (ints (Pl.flt s h)) ∧ Below w.heap.size w w' := by
  have HN := Lib.hid (fun k (hk : k < 5) => Pl.nd_bd hs hh hk)
  have HS := Lib.hid (Pl.vsz_true.1 hs)
  have HH := Lib.hid hh
  have HSS := Lib.hid hs
  clear hs hh
  have hB0 := ((Below.refl w.heap.size w).alloc (Nat.le_refl _) (.cells (szA s) 46)).alloc (by simp) (.cells (hdA h) 34)
  have bS := (Blk.new w 46 (szA s)).alloc (.cells (hdA h) 34)
  have bH := Blk.new (w.alloc (.cells (szA s) 46)) 34 (hdA h)
  rw [World.size_alloc] at bH
  have hbl := bS.lt
  go_enter Tryd.func76, Tryd.ntmps76
  go_wp2_with (first | refine ld_size bS rfl _ rfl rfl ?_ | refine ld_head bH rfl _ rfl rfl ?_ | fail)
  refine (rneed_any s h HSS.out HH.out _).mono ?_
  rintro e w1 ⟨rfl, hb1⟩
  have hB1 := hB0.trans (hb1.mono hB0.size)
  have bS1 := bS.below hb1 hbl
  have hSl : w.heap.size < w1.heap.size := by have := hb1.size; simp at this; omega
  have bN := Blk.new w1 32 #[.int .i64 0, .int .i64 0, .int .i64 0, .int .i64 0, .int .i64 0]
  have bS2 := bS1.alloc (.cells #[.int .i64 0, .int .i64 0, .int .i64 0, .int .i64 0, .int .i64 0] 32)
  have hB2 := hB1.alloc hB1.size (.cells #[.int .i64 0, .int .i64 0, .int .i64 0, .int .i64 0, .int .i64 0] 32)
  clear hB0 bS bH hbl hb1 hB1 bS1
  go_wp2_with (first | (refine st_five (f := Pl.nd s h) bN rfl rfl _ _ rfl rfl rfl ?_; intro w2 bN2 hO; have bS3 := bS2.only hO (by omega); have hB3 := hB2.trans (hO.below (B := w.heap.size) (by omega)); clear hO bS2 hB2 bN))
  generalize w1.heap.size = S at *
  go_loopw [5, 8, 15] (fun v _ i wr => ∃ k : Nat, k ≤ 5 ∧ i = .int .i64 k ∧ wr.ownsRow w.heap.size 3 1 v (Pl.fltK s h k).length (ints (Pl.fltK s h k)) ∧ Blk wr w.heap.size 46 (szA s) ∧ Blk wr S 32 (a5A (Pl.nd s h)) ∧ Below w.heap.size w wr) (fun _ _ i _ => 5 - (intOf i).toNat)
  case atStart => exact ⟨0, by omega, rfl, World.ownsRow_nil _ _ _ _, bS3, bN2, hB3⟩
  case round =>
    clear bS3 bN2 hB3
    obtain ⟨k, hk, rfl, hown, bS, bN, hB⟩ := hrel
    by_cases hlt : k < 5
    · have q1 := bS.bd hlt
      have q2 := bN.at5 hlt
      have z1 := fun e : Ext wr => e.cell q1
      have z2 := fun e : Ext wr => e.cell q2
      have hkl := Pl.fltK_len s h k
      have hbl := bS.lt
      have hbn := bN.lt
      clear q1 q2
      go_wp2
      refine wp_region_ext (by kernel_rfl) (by kernel_rfl) ?_
      repeat (go_big_quiet_step (fail))
      refine wpQuiet_nil ?_
      rintro _ ⟨e, rfl⟩
      have hown2 := own_keep hown e.h
      have hB2 := hB.trans (e.h.mono hB.size)
      have bS2 := bS.below e.h hbl
      have bN2 := bN.below e.h hbn
      generalize e.w = W2 at *
      clear z1 z2 bS bN hB hown e hbl hbn
      by_cases hc : s.bd k < Pl.nd s h k
      · have e1 : decide (s.bd k < Pl.nd s h k) = true := decide_eq_true hc
        have HM := Lib.hid ((Pl.fltK_succ s h k).trans (if_pos hc))
        rw [e1]
        clear e1 hc
        go_wp2_with (at_builtin; refine ap_int (n := (k : Int)) (hown2.alloc _) rfl _ _ rfl rfl _ rfl ((Blk.new _ _ _).cell 0) (by omega) (by have := hB2.size; simp; omega) ?_; intro v' w3 hown' hgrow; have bS3 := (bS2.alloc _).grew (hown2.alloc _) hgrow (.inr (by decide)); have bN3 := (bN2.alloc _).grew (hown2.alloc _) hgrow (.inr (by decide)); have hB3 := (hB2.alloc hB2.size _).grown hgrow (by have := hB2.size; simp; omega) (fun k e => (hown2.lt k e).1))
        go_roundw
        case rel => exact ⟨k + 1, by omega, by go_num, by rw [HM.out]; exact hown', bS3, bN3, hB3⟩
        case measure => simp [intOf]; omega
      · have e1 : decide (s.bd k < Pl.nd s h k) = false := decide_eq_false hc
        have HM := Lib.hid ((Pl.fltK_succ s h k).trans (if_neg hc))
        rw [e1]
        clear e1 hc
        go_wp2
        go_roundw
        case rel => exact ⟨k + 1, by omega, by go_num, by rw [HM.out]; exact hown2, bS2, bN2, hB2⟩
        case measure => simp [intOf]; omega
    · obtain rfl : k = 5 := by omega
      have q5 := bS.tot
      have hfl := Pl.fltK_len s h 5
      by_cases hc : s.tot < Pl.sumK (Pl.nd s h) 5
      · have HM : Hid (Pl.flt s h = Pl.fltK s h 5 ++ [5]) := Lib.hid (if_pos hc)
        go_wp2_with (at_builtin; refine ap_int (n := 5) (hown.alloc _) rfl _ _ rfl rfl _ rfl ((Blk.new _ _ _).cell 0) (by omega) (by have := hB.size; simp; omega) ?_; intro v' w3 hown' hgrow; have hB3 := (hB.alloc hB.size _).grown hgrow (by have := hB.size; simp; omega) (fun k e => (hown.lt k e).1))
        go_ret
        exact ⟨_, rfl, by rw [HM.out]; exact hown', hB3⟩
      · have hc' : Pl.sumK (Pl.nd s h) 5 ≤ s.tot := by omega
        have HM : Hid (Pl.flt s h = Pl.fltK s h 5) := Lib.hid (if_neg hc)
        clear hc
        go_wp2
        go_ret
        exact ⟨_, rfl, by rw [HM.out]; exact hown, hB⟩
end Go.Proofs.YtghbipipehglfaaDoor
