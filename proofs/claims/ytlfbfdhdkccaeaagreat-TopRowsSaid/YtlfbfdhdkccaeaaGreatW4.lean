/- lightestFirst. -/
import Derived.Test.YtlfbfdhdkccaeaaGreatW3
import Derived.Test.YtlfbfdhdkccaeaaGreatShelf1
namespace Go.Proofs.YtlfbfdhdkccaeaaGreat
open Go.RowKit Go.Shelf Go.Sort Go.Lib

/-- what lightestFirst compares, by index -/
def cfF (l : List Pl.Bt) (n : Nat) (i j : Fin n) : Int := Pl.fbI (Pl.at' l i) (Pl.at' l j)
theorem ltOf_cf (l : List Pl.Bt) (n : Nat) (i j : Fin n) : ltOf (cfF l n) i j = decide (Pl.Low (Pl.at' l i) (Pl.at' l j)) := by
  unfold ltOf cfF
  rw [decide_eq_decide]
  exact Pl.fbI_low _ _
theorem swo_cf (l : List Pl.Bt) (n : Nat) : SWO (ltOf (cfF l n)) where
  irrefl x := by rw [ltOf_cf]; exact decide_eq_false (Pl.low_irrefl _)
  trans x y z h1 h2 := by
    rw [ltOf_cf] at *
    simp only [decide_eq_true_eq] at *
    exact Pl.low_trans h1 h2
  ntrans x y z h1 h2 := by
    rw [ltOf_cf] at *
    simp only [decide_eq_false_iff_not] at *
    unfold Pl.Low at *
    omega
theorem tot_cf {l : List Pl.Bt} (h : Pl.Ok l) (n : Nat) (x y : Fin n) (h1 : ltOf (cfF l n) x y = false) (h2 : ltOf (cfF l n) y x = false) : x = y := by
  rw [ltOf_cf] at *
  simp only [decide_eq_false_iff_not] at *
  by_cases e : (Pl.at' l x).num = (Pl.at' l y).num
  · exact Fin.ext (h.num _ _ e)
  · rcases Pl.low_total _ _ e with k | k
    · exact absurd k h1
    · exact absurd k h2
/-- all indexes -/
def allF (n : Nat) : List (Fin n) := List.ofFn fun i => i
theorem allF_val (n : Nat) : (allF n).map (fun i => i.val) = List.range n := by
  apply List.ext_getElem
  · simp [allF]
  · intro i h1 h2; simp [allF]
theorem allF_len (n : Nat) : (allF n).length = n := by simp [allF]
theorem ord_sort (l : List Pl.Bt) : ((allF l.length).mergeSort fun x y => !(ltOf (cfF l l.length)) y x).map (fun i => i.val) = Pl.ord l := by
  unfold Pl.ord
  rw [← allF_val l.length]
  apply List.map_mergeSort
  intro a _ b _
  rw [ltOf_cf]

section
variable {α : Type} [Inhabited α] (enc : α → Value)
theorem heap_sort1 {w : World} {g n : Nat} {os : Array Obj} {cur : Array Value} {e : TypeId} {fr : Nat × Nat} (d : Array α) (hb : w.heap[g]? = some (.cells cur e fr)) :
    (sortWorld enc w g 0 n d os).heap[g]? = some (.cells (putCells enc 0 d cur) e fr) := by
  have hg : g < w.heap.size := (Array.getElem?_eq_some_iff.1 hb).1
  unfold sortWorld
  rw [heap_grow_old _ _ (by simpa using hg)]
  simp [putRow, mapBlock, Sort.ahead, Array.getElem?_modify, hb, onCells]
theorem grownBy_sort1 {w : World} {g n : Nat} {os : Array Obj} (d : Array α) : w.grownBy (sortWorld enc w g 0 n d os) (some g) := by
  unfold sortWorld
  refine ⟨rfl, rfl, rfl, by simp, fun k hk hne => ?_⟩
  rw [heap_grow_old _ _ (by simpa using hk)]
  have : g ≠ k := fun e => hne (by rw [e])
  simp [putRow, mapBlock, Sort.ahead, Array.getElem?_modify, this]
theorem take_put1 (cur : Array Value) (ts : List α) (h : ts.length ≤ cur.size) : (putCells enc 0 ts.toArray cur).toList.take ts.length = ts.map enc := by
  apply List.ext_getElem?
  intro j
  by_cases hj : j < ts.length
  · rw [List.getElem?_take_of_lt hj, Array.getElem?_toList]
    simp [putCells, hj, show j < cur.size by omega]
  · rw [List.getElem?_take_eq_none (by omega), List.getElem?_eq_none (by simp; omega)]
end
/-- the cell of an index -/
def enF (n : Nat) (i : Fin n) : Value := .int .i64 (i.val : Nat)
theorem flt_irc (d : List Nat) : flt irc d = d.map (fun n : Nat => Value.int .i64 (n : Nat)) := by
  induction d with
  | nil => rfl
  | cons x d ih => rw [flt_cons, ih]; rfl
theorem enF_map (n : Nat) (d : List (Fin n)) : d.map (enF n) = flt irc (d.map (fun i => i.val)) := by
  rw [flt_irc, List.map_map]; rfl

set_option maxHeartbeats 1000000 in
theorem sort_row (B : Nat) (v : Value) (n c bx bz oz : Nat) (l : List Pl.Bt) (h : Pl.Ok l) (hn : l.length = n) (h0 : 0 < n) (w : World) (hown : w.ownsRow B 3 1 v n (flt irc (List.range n)))
    (hx : w.cell? ⟨bx, 0, none⟩ = some (.slice (some ⟨bz, oz, none⟩) n c)) (hbx : bx < B) (hbz : bz < B) (hc : ∀ j, j < l.length → w.rangeAt bz (oz + j * 7) (btA (l.getD j Pl.zb)).toList) :
    Calls Tryz.prog 65 #[v, .func (.func 66) #[] #[.pointer (some ⟨bx, 0, none⟩)]] w fun e w' => e = .returned (.tuple #[]) ∧ w'.ownsRow B 3 1 v n (flt irc (Pl.ord l)) ∧ Below B w w' := by
  subst hn
  have hh := hown
  rcases hown with ⟨hz, ⟨rfl, h1⟩ | ⟨g, cap, cur, rfl, hg, hb, hle, hcm, hcs, htk⟩⟩
  · omega
  haveI : Inhabited (Fin l.length) := ⟨⟨0, h0⟩⟩
  have hgw : g < w.heap.size := (hh.lt g rfl).2
  have hl := h.len
  have eg : ∀ args w, (callFunc 66 args).run Tryz.prog w = .ok (.enter 66 args) w := enters_of Tryz.func66 (by kernel_rfl) rfl
  have hcmp : CmpLays1 Tryz.prog 66 #[.pointer (some ⟨bx, 0, none⟩)] (enF l.length) (cfF l l.length) g 0 (allF l.length).toArray.size w := by
    intro m os dk _ x y
    have hgr := grownBy_sort1 (enF l.length) (w := w) (g := g) (n := m) (os := os) dk
    have hB : Below B w (sortWorld (enF l.length) w g 0 m dk os) := (Below.refl B w).grown hgr (by omega) (fun s e => by cases e; exact hg)
    have := low_any bx bz oz l.length c l rfl x.val y.val x.isLt y.isLt (sortWorld (enF l.length) w g 0 m dk os) ((hB.cell (p := ⟨bx, 0, none⟩) hbx).trans hx) (by have := hB.size; omega) (by have := hB.size; omega)
      (fun j hj i v hv => (hB.cell (p := ⟨bz, oz + j * 7 + i, none⟩) hbz).trans (hc j hj i v hv))
    exact this.mono fun e w' ⟨he, hG⟩ => ⟨he, hG.grow⟩
  have hH : Holds (enF l.length) w g 0 (allF l.length).toArray := by
    intro j hj
    have hj' : j < l.length := by simpa [allF] using hj
    refine ⟨?_, by simp [World.frozen?, hb]⟩
    have e1 : (allF l.length).toArray[j]! = ⟨j, hj'⟩ := by
      rw [getElem!_pos _ j hj]; simp [allF]
    rw [e1]
    have h3 : w.cell? ⟨g, j, none⟩ = _ := hh.cellAt j (by omega)
    rw [Nat.zero_add, h3, flt_irc, List.getElem?_map, List.getElem?_range hj']; rfl
  have hcon := Any.slices_SortFunc_total Tryz.sortP (enF l.length) (fun _ => rfl) (cfF l l.length) (swo_cf l _) 66 #[.pointer (some ⟨bx, 0, none⟩)] g 0 cap (allF l.length).toArray w eg hcmp hH hgw (by simp [allF]; omega) (tot_cf h _)
  change Calls Tryz.prog 65 _ _ _ at hcon
  simp only [List.size_toArray, allF_len] at hcon
  refine hcon.mono fun e w' ⟨he, n', os, hw⟩ => ⟨he, ?_⟩
  rw [hw]
  generalize hts : (allF l.length).mergeSort (fun x y => !(ltOf (cfF l l.length)) y x) = ts
  have hos : ts.map (fun i => i.val) = Pl.ord l := by rw [← hts]; exact ord_sort l
  have htl : ts.length = l.length := by rw [← hts, List.length_mergeSort, allF_len]
  have hgr := grownBy_sort1 (enF l.length) (w := w) (g := g) (n := n') (os := os) ts.toArray
  refine ⟨?_, (Below.refl B w).grown hgr (by omega) (fun s e => by cases e; exact hg)⟩
  rw [← hos, ← enF_map]
  refine ⟨by simp [htl], .inr ⟨g, cap, _, rfl, hg, heap_sort1 _ _ hb, hle, hcm, by simp [putCells, hcs], ?_⟩⟩
  have := take_put1 (enF l.length) cur ts (by rw [hcs]; omega)
  rw [htl] at this
  rw [Nat.mul_one]
  exact this
theorem sort_none (fv : Value) (w : World) : Calls Tryz.prog 65 #[.slice none 0 0, fv] w fun e w' => e = .returned (.tuple #[]) ∧ w' = w := by
  have h := AnyF.slices_SortFunc_none { Tryz.sortP with } none 0 fv w
  change Calls Tryz.prog 65 _ _ _ at h
  exact h

set_option maxRecDepth 100000 in
set_option maxHeartbeats 4000000 in
theorem lightest_any (A : Option Addr) (l : List Pl.Bt) (c n : Nat) (hn : l.length = n) (h : Pl.Ok l) (w : World) (hI : Bts w A l) :
    Calls Tryz.prog 39 #[.slice A n c] w fun e w' => ∃ v, e = .returned v ∧ w'.ownsRow w.heap.size 3 1 v n (flt irc (Pl.ord l)) ∧ Below w.heap.size w w' := by
  have HI := Lib.hid hI
  have HO := Lib.hid h
  have HN := Lib.hid hn
  have hl : n ≤ 40 := hn ▸ h.len
  obtain ⟨i0, hi, hz0, hz1, hz2⟩ := info_parts info3
  have bX := Blk.new w 22 #[.slice A n c]
  have hB0 := (Below.refl w.heap.size w).alloc (Nat.le_refl _) (.cells #[.slice A n c] 22)
  have q0 := bX.cell 0
  have HX := Lib.hid bX
  clear hI h hn bX
  obtain ⟨wb, hwb⟩ : ∃ wb, wb = w.alloc (.cells #[.slice A n c] 22) := ⟨_, rfl⟩
  have hsz : wb.heap.size = w.heap.size + 1 := by rw [hwb]; simp
  rw [← hwb] at q0 hB0 HX
  go_enter Tryz.func39, Tryz.ntmps39
  go_wp2_with fail
  rw [← hwb]
  clear hwb
  go_wp2
  go_loopw [3, 4, 7] (fun v _ i wr => ∃ k : Nat, k ≤ n ∧ i = .int .i64 k ∧ wr.ownsRow wb.heap.size 3 1 v k (flt irc (List.range k)) ∧ Below wb.heap.size wb wr) (fun _ _ i _ => n - (intOf i).toNat)
  case atStart => exact ⟨0, Nat.zero_le _, rfl, World.ownsRow_nil _ _ _ _, Below.refl _ _⟩
  case round =>
    obtain ⟨k, hk, rfl, hown, hB⟩ := hrel
    obtain ⟨wo, rfl⟩ : ∃ wo, wo = wr := ⟨_, rfl⟩
    by_cases hlt : k < n
    · have hltI : (k : Int) < (n : Int) := by omega
      have HE : Hid (flt irc (List.range (k + 1)) = flt irc (List.range k) ++ irc k) := Lib.hid (by rw [List.range_succ, flt_append, flt_one])
      have HOW := Lib.hid (hown.alloc (.cells (irc k).toArray 3))
      go_wp2_with (at_builtin; refine wpList_append_own _ rfl _ _ 32 rfl wb.heap.size 3 i0 _ 1 8 Tryz.underlying32 hi hz0 hz1 hz2 rfl (by decide) _ _ _ rfl HOW.out ⟨wo.heap.size, 0, none⟩ 1 1 (irc k) rfl rfl (new_cells' _ _ _ rfl) (encIr.one k) (by unfold maxLen; omega) (by omega) (by have := hB.size; simp; omega) ?_; intro v' w9 hown' hgrow _)
      have hB9 := (hB.alloc hB.size (.cells (irc k).toArray 3)).grown hgrow (hB.alloc hB.size _).size (fun s e => (hown.lt s e).1)
      go_roundw
      case rel => exact ⟨k + 1, by omega, by go_num, by rw [HE.out]; exact hown', hB9⟩
      case measure => simp [intOf]; omega
    · obtain rfl : k = n := by omega
      by_cases h0 : 0 < k
      · obtain ⟨bz, oz, rfl, hbz, hcz⟩ := bts_open HI.out (by rw [HN.out]; exact h0)
        have hx : wo.cell? ⟨w.heap.size, 0, none⟩ = some (.slice (some ⟨bz, oz, none⟩) k c) := (hB.cell (p := ⟨w.heap.size, 0, none⟩) (by rw [hsz]; simp)).trans q0
        have hcz2 : ∀ j, j < l.length → wo.rangeAt bz (oz + j * 7) (btA (l.getD j Pl.zb)).toList := fun j hj i v hv => (hB.cell (p := ⟨bz, oz + j * 7 + i, none⟩) (by rw [hsz]; simp; omega)).trans ((hB0.cell (p := ⟨bz, oz + j * 7 + i, none⟩) hbz).trans (hcz j hj i v hv))
        have HS := Lib.hid (sort_row wb.heap.size u3 k c w.heap.size bz oz l HO.out HN.out h0 wo hown hx (by omega) (by omega) hcz2)
        clear hown hx hcz hcz2 q0
        go_wp2_with fail
        refine HS.out.mono ?_
        rintro e w1 ⟨rfl, hown1, hb1⟩
        have hB1 := hB0.trans ((hB.trans hb1).mono (by omega))
        have HO1 := Lib.hid (own_mono hown1 (show w.heap.size ≤ wb.heap.size by omega))
        clear hown1 hb1 hB HS
        go_wp2
        go_ret
        exact ⟨_, rfl, HO1.out, hB1⟩
      · obtain rfl : k = 0 := by omega
        have hv : u3 = .slice none 0 0 ∨ ∃ g cap, u3 = .slice (some ⟨g, 0, none⟩) 0 cap := hown.2.imp (fun h => h.1) (fun ⟨g, cap, cur, e, _⟩ => ⟨g, cap, e⟩)
        have HZ : Hid (Pl.ord l = []) := Lib.hid (List.eq_nil_of_length_eq_zero (by rw [Pl.ord_len, HN.out]))
        have HS := Lib.hid (fun p cap fv w => AnyF.slices_SortFunc_none { Tryz.sortP with } p cap fv w)
        have HO1 := Lib.hid (own_mono hown (show w.heap.size ≤ wb.heap.size by omega))
        have hB1 := hB0.trans (hB.mono (by omega))
        clear hown hB q0
        rcases hv with rfl | ⟨g, cap, rfl⟩
        all_goals
          go_wp2_with fail
          refine (show Calls Tryz.prog 65 _ _ _ from HS.out _ _ _ _).mono ?_
          rintro e w1 ⟨rfl, rfl⟩
          go_wp2
          go_ret
          exact ⟨_, rfl, by rw [HZ.out]; exact HO1.out, hB1⟩
end Go.Proofs.YtlfbfdhdkccaeaaGreat

