/- A row of places that the call owns, sorted from below by the library. -/
import Derived.Shelf.SlSortCmp.NoneTotal
import Derived.Test.YtflkhjicgojcbaaL3
import Derived.Test.YtflkhjicgojcbaaH9
namespace Go.Proofs.Ytflkhjicgojcbaa
open Go.RowKit Go.Shelf Go.Sort Go.Lib

def encXY (p : Geo.XY) : List Value := [.int .i64 p.1, .int .i64 p.2]
theorem flatK_flat (ps : List Geo.XY) : flatK encXY 2 ps.toArray = (flat ps).toArray := ext_get! (by simp [flat_length]) fun t ht => by
  have ht' : t < ps.length * 2 := by simpa using ht
  rw [get_flatK _ _ _ _ (by simpa using ht')]
  have hk : t / 2 < ps.length := by omega
  obtain ⟨f1, f2⟩ := flat_get ps (t / 2) hk
  have hx : ps.toArray[t / 2]! = Geo.X ps (t / 2) := by
    unfold Geo.X
    simp [hk]
  rw [hx]
  rcases Nat.mod_two_eq_zero_or_one t with h | h
  · rw [h]
    have : t / 2 * 2 = t := by omega
    rw [this] at f1
    rw [getElem!_pos (flat ps).toArray t (by simp [flat_length]; omega)]
    rw [List.getElem?_eq_getElem (by rw [flat_length]; omega)] at f1
    simp only [encXY, List.getElem_toArray]
    exact (Option.some.inj f1).symm
  · rw [h]
    have : t / 2 * 2 + 1 = t := by omega
    rw [this] at f2
    rw [getElem!_pos (flat ps).toArray t (by simp [flat_length]; omega)]
    rw [List.getElem?_eq_getElem (by rw [flat_length]; omega)] at f2
    simp only [encXY, List.getElem_toArray]
    exact (Option.some.inj f2).symm
theorem holdsK_own {w : World} {B g c : Nat} {ps : List Geo.XY} (h : w.ownsRow B 38 2 (.slice (some ⟨g, 0, none⟩) ps.length c) ps.length (flat ps)) : HoldsK encXY 2 w g 0 ps.toArray := by
  unfold HoldsK
  rw [flatK_flat]
  intro j hj
  have hj' : j < ps.length * 2 := by simpa [flat_length] using hj
  refine ⟨?_, by rw [Nat.zero_add]; exact h.frozenAt j⟩
  rw [Nat.zero_add, h.cellAt j hj']
  rw [getElem!_pos (flat ps).toArray j hj, List.getElem_toArray]
  exact List.getElem?_eq_getElem _
theorem heap_sortK {w : World} {g n : Nat} {os : Array Obj} {cur : Array Value} {e : TypeId} {fr : Nat × Nat} (F : Array Value) (hb : w.heap[g]? = some (.cells cur e fr)) :
    (grow (putRow id (Sort.ahead w n) g 0 F) os).heap[g]? = some (.cells (putCells id 0 F cur) e fr) := by
  have hg : g < w.heap.size := (Array.getElem?_eq_some_iff.1 hb).1
  rw [heap_grow_old _ _ (by simpa using hg)]
  simp [putRow, mapBlock, Sort.ahead, Array.getElem?_modify, hb, onCells]
theorem grownBy_sortK {w : World} {g n : Nat} {os : Array Obj} (F : Array Value) : w.grownBy (grow (putRow id (Sort.ahead w n) g 0 F) os) (some g) := by
  refine ⟨rfl, rfl, rfl, by simp, fun k hk hne => ?_⟩
  rw [heap_grow_old _ _ (by simpa using hk)]
  have : g ≠ k := fun e => hne (by rw [e])
  simp [putRow, mapBlock, Sort.ahead, Array.getElem?_modify, this]
theorem take_putK (cur : Array Value) (xs : List Value) (h : xs.length ≤ cur.size) : (putCells id 0 xs.toArray cur).toList.take xs.length = xs := by
  apply List.ext_getElem?
  intro j
  by_cases hj : j < xs.length
  · rw [List.getElem?_take_of_lt hj, Array.getElem?_toList]
    simp [putCells, hj, show j < cur.size by omega]
  · rw [List.getElem?_take_eq_none (by omega), List.getElem?_eq_none (by omega)]
theorem own_sortK {w : World} {B g c n : Nat} {ps qs : List Geo.XY} {os : Array Obj} (hl : qs.length = ps.length) (h : w.ownsRow B 38 2 (.slice (some ⟨g, 0, none⟩) ps.length c) ps.length (flat ps)) :
    (sortWorldK encXY 2 w g 0 n qs.toArray os).ownsRow B 38 2 (.slice (some ⟨g, 0, none⟩) ps.length c) ps.length (flat qs) ∧ Below B w (sortWorldK encXY 2 w g 0 n qs.toArray os) := by
  unfold sortWorldK putRowK
  rw [flatK_flat]
  obtain ⟨h0, h1⟩ := h
  rcases h1 with ⟨he, _⟩ | ⟨g', cap, cur, he, hg, hb, h1, h2, h3, h4⟩
  · cases he
  · cases he
    have hlen : (flat qs).length = ps.length * 2 := by rw [flat_length, hl]
    refine ⟨⟨hlen, .inr ⟨g, c, _, rfl, hg, heap_sortK _ hb, h1, h2, by simp [putCells, h3], ?_⟩⟩, ?_⟩
    · have := take_putK cur (flat qs) (by rw [hlen, h3]; exact Nat.mul_le_mul_right 2 h1)
      rw [hlen] at this
      exact this
    · have hgw : g < w.heap.size := (Array.getElem?_eq_some_iff.1 hb).1
      have hs : B ≤ w.heap.size := by omega
      exact (Below.refl B w).grown (grownBy_sortK _) hs (fun k e => by cases e; exact hg)

theorem ltOf_low (p q : Geo.XY) : ltOf fbI p q = decide (Geo.low p q) := by
  unfold ltOf
  rw [decide_eq_decide]
  exact fbI_low p q
theorem swo_low : SWO (ltOf fbI) where
  irrefl x := by rw [ltOf_low]; exact decide_eq_false (Geo.low_irrefl x)
  trans x y z h1 h2 := by
    rw [ltOf_low] at *
    simp only [decide_eq_true_eq] at *
    exact Geo.low_trans h1 h2
  ntrans x y z h1 h2 := by
    rw [ltOf_low] at *
    simp only [decide_eq_false_iff_not] at *
    intro h
    rcases Geo.low_total x y with k | rfl | k
    · exact h1 k
    · exact h2 h
    · exact h2 (Geo.low_trans k h)
theorem tot_low (x y : Geo.XY) (h1 : ltOf fbI x y = false) (h2 : ltOf fbI y x = false) : x = y := by
  rw [ltOf_low] at *
  simp only [decide_eq_false_iff_not] at *
  rcases Geo.low_total x y with k | k | k
  · exact absurd k h1
  · exact k
  · exact absurd k h2
/-- the places from below -/
def srt (l : List Geo.XY) : List Geo.XY := l.mergeSort fun x y => !(ltOf fbI) y x
theorem srt_perm (l : List Geo.XY) : (srt l).Perm l := List.mergeSort_perm ..
theorem srt_len (l : List Geo.XY) : (srt l).length = l.length := (srt_perm l).length_eq
theorem srt_mem (l : List Geo.XY) (x : Geo.XY) : x ∈ srt l ↔ x ∈ l := (srt_perm l).mem_iff
theorem srt_rise (l : List Geo.XY) : Geo.Rise (srt l) := by
  have h := List.pairwise_mergeSort (le := fun x y => !(ltOf fbI) y x) (fun a b c h1 h2 => by
    simp only [Bool.not_eq_true'] at *
    exact swo_low.ntrans _ _ _ h2 h1) (fun a b => by
    cases h1 : ltOf fbI b a with
    | false => simp
    | true =>
      cases h2 : ltOf fbI a b with
      | false => simp
      | true =>
        have := swo_low.trans _ _ _ h1 h2
        rw [swo_low.irrefl] at this
        cases this) l
  refine h.imp fun {a b} hab => ?_
  simp only [Bool.not_eq_true', ltOf_low, decide_eq_false_iff_not] at hab
  exact hab

set_option maxRecDepth 100000 in
set_option maxHeartbeats 400000 in
theorem fb_grow (ax ay bx bY : Int) (w : World) : Calls Try.prog 97 #[.agg #[.int .i64 ax, .int .i64 ay], .agg #[.int .i64 bx, .int .i64 bY]] w fun e w' =>
    e = .returned (.int .i64 (fbI (ax, ay) (bx, bY))) ∧ ∃ q os, w' = grow (w.drewN q) os := by
  go_enter Try.func97, Try.ntmps97
  go_wp2
  refine wp_region_tail 10 (by kernel_rfl) (by kernel_rfl) fun W hW => ?_
  have f1 : W.cell? ⟨w.heap.size, 0, none⟩ = some (.int .i64 ax) := by rw [hW]; go_simp
  have f2 : W.cell? ⟨w.heap.size, 1, none⟩ = some (.int .i64 ay) := by rw [hW]; go_simp
  have f3 : W.cell? ⟨w.heap.size + 1, 0, none⟩ = some (.int .i64 bx) := by rw [hW]; go_simp
  have f4 : W.cell? ⟨w.heap.size + 1, 1, none⟩ = some (.int .i64 bY) := by rw [hW]; go_simp
  have hb : ∃ q os, W = grow (w.drewN q) os := ⟨1, _, by rw [hW, alloc_eq_grow, alloc_eq_grow, grow_grow]; rfl⟩
  have HB := Lib.hid hb
  clear hW hb
  simp only [List.take_succ_cons, List.take_zero, List.drop_succ_cons, List.drop_zero]
  iterate 4 still_step
  still_call (cmp_any _ _ _)
  iterate 4 still_step
  still_call (cmp_any _ _ _)
  refine wpStill_nil ?_
  go_wp2_with fail
  refine (or_any W.heap.size (cmpI ay bY) (cmpI ax bx) _ (by go_simp) (by go_simp)).mono ?_
  rintro e w' ⟨rfl, rfl⟩
  go_wp2
  go_ret
  refine ⟨rfl, ?_⟩
  obtain ⟨q, os, rfl⟩ := HB.out
  exact ⟨q, _, by rw [alloc_eq_grow, grow_grow]⟩
theorem fb_lays (blk off size : Nat) (w : World) : CmpLays Try.prog 97 #[] encXY 2 fbI blk off size w := by
  intro m os dk _ x y
  obtain ⟨x1, x2⟩ := x
  obtain ⟨y1, y2⟩ := y
  exact fb_grow x1 x2 y1 y2 _
end Go.Proofs.Ytflkhjicgojcbaa
