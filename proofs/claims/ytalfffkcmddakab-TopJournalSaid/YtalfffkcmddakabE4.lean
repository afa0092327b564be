/- inOrder, and sorting by it. -/
import Derived.Test.YtalfffkcmddakabE2
import Derived.Test.YtalfffkcmddakabF4
import Derived.Test.YtalfffkcmddakabShelf1
import Derived.Shelf.SlSortCmp.NoneTotal
namespace Go.Proofs.Ytalfffkcmddakab
open Go.RowKit Go.Shelf Go.Sort Go.Lib

set_option maxHeartbeats 400000 in
theorem cmp_any (a b : Int) (w : World) : Calls Try.prog 82 #[.int .i64 a, .int .i64 b] w fun e w' => e = .returned (.int .i64 (Pl.cmpI a b)) ∧ w' = w := by
  rcases Int.lt_trichotomy a b with h | h | h
  · have H := Lib.hid (Pl.cmpI_lt h)
    go_enter Try.func82, Try.ntmps82
    go_wp2
    go_ret
    exact ⟨by rw [H.out]; rfl, rfl⟩
  · have H := Lib.hid (Pl.cmpI_eq h)
    have h1 : ¬ a < b := by omega
    have h2 : ¬ b < a := by omega
    clear h
    go_enter Try.func82, Try.ntmps82
    go_wp2
    go_ret
    exact ⟨by rw [H.out]; rfl, rfl⟩
  · have H := Lib.hid (Pl.cmpI_gt h)
    have h1 : ¬ a < b := by omega
    go_enter Try.func82, Try.ntmps82
    go_wp2
    go_ret
    exact ⟨by rw [H.out]; rfl, rfl⟩

set_option maxHeartbeats 400000 in
theorem or_any (g : Nat) (a b : Int) (w : World) (h0 : w.cell? ⟨g, 0, none⟩ = some (.int .i64 a)) (h1 : w.cell? ⟨g, 1, none⟩ = some (.int .i64 b)) :
    Calls Try.prog 81 #[.slice (some ⟨g, 0, none⟩) 2 2] w fun e w' => e = .returned (.int .i64 (Pl.orI a b)) ∧ w' = w := by
  go_enter Try.func81, Try.ntmps81
  go_wp2
  go_loop [8] (fun i => ∃ k : Nat, k ≤ 2 ∧ i = .int .i64 k ∧ (1 ≤ k → a = 0) ∧ (2 ≤ k → b = 0)) (fun i => 2 - (intOf i).toNat)
  case atStart => exact ⟨0, by omega, rfl, fun h => absurd h (by omega), fun h => absurd h (by omega)⟩
  case round =>
    obtain ⟨k, hk, rfl, ha, hb⟩ := hrel
    have HA := Lib.hid ha
    have HB := Lib.hid hb
    clear ha hb
    have hk3 : k = 0 ∨ k = 1 ∨ k = 2 := by omega
    rcases hk3 with rfl | rfl | rfl
    · by_cases hz : a = 0
      · have hz1 : (a != 0) = false := by simp [hz]
        have HZ := Lib.hid hz
        clear hz
        go_wp2
        go_round
        case rel => exact ⟨1, by omega, by simp, fun _ => HZ.out, fun h => absurd h (by omega)⟩
        case measure => simp [intOf]
      · have hz1 : (a != 0) = true := by simp [hz]
        have HZ := Lib.hid hz
        clear hz
        go_wp2
        go_ret
        exact ⟨by unfold Pl.orI; rw [if_neg HZ.out]; rfl, rfl⟩
    · by_cases hz : b = 0
      · have hz1 : (b != 0) = false := by simp [hz]
        have HZ := Lib.hid hz
        clear hz
        go_wp2
        go_round
        case rel => exact ⟨2, by omega, by simp, fun _ => HA.out (by omega), fun _ => HZ.out⟩
        case measure => simp [intOf]
      · have hz1 : (b != 0) = true := by simp [hz]
        have HZ := Lib.hid hz
        clear hz
        go_wp2
        go_ret
        exact ⟨by unfold Pl.orI; rw [if_pos (HA.out (by omega))]; rfl, rfl⟩
    · go_wp2
      go_ret
      exact ⟨by unfold Pl.orI; rw [if_pos (HA.out (by omega)), HB.out (by omega)]; rfl, rfl⟩

theorem wp_region_tail {P : Program} {id : Nat} {Q : Exit → Act → World → Prop} {a : Act} {w : World} {l : List Oper} (n : Nat) (hm : P.follows .mixedOrders = true) (hB : Region.lexTailB .any l.toArray n = true)
    (h : ∀ W : World, W = w.drew → wpStill P l.toArray W (fun a' => wpList P l.toArray Q (l.drop n) a' W) (l.take n) a) : (Code.region id l.toArray true).wp P Q a w :=
  wp_region_still_tail n hm hB (h _ rfl)

set_option maxRecDepth 100000 in
set_option maxHeartbeats 400000 in
theorem io_grow (s t : Pl.En) (w : World) : Calls Try.prog 70 #[.agg (enL s).toArray, .agg (enL t).toArray] w fun e w' =>
    e = .returned (.int .i64 (Pl.cmpE s t)) ∧ ∃ q os, w' = grow (w.drewN q) os := by
  go_enter Try.func70, Try.ntmps70
  go_wp2
  refine wp_region_tail 10 (by kernel_rfl) (by kernel_rfl) fun W hW => ?_
  have f1 : W.cell? ⟨w.heap.size, 0, none⟩ = some (.int .i64 s.k) := by rw [hW]; go_simp
  have f2 : W.cell? ⟨w.heap.size, 1, none⟩ = some (.int .i64 s.r) := by rw [hW]; go_simp
  have f3 : W.cell? ⟨w.heap.size + 1, 0, none⟩ = some (.int .i64 t.k) := by rw [hW]; go_simp
  have f4 : W.cell? ⟨w.heap.size + 1, 1, none⟩ = some (.int .i64 t.r) := by rw [hW]; go_simp
  have hb : ∃ q os, W = grow (w.drewN q) os := ⟨1, _, by rw [hW, alloc_eq_grow, alloc_eq_grow, grow_grow]; rfl⟩
  have HB := Lib.hid hb
  clear hW hb
  simp only [List.take_succ_cons, List.take_zero, List.drop_succ_cons, List.drop_zero]
  iterate 4 still_step
  still_call (cmp_any _ _ _)
  iterate 4 still_step
  still_call (cmp_any _ _ _)
  refine wpStill_nil ?_
  go_wp2_with fail
  refine (or_any W.heap.size (Pl.cmpI s.k t.k) (Pl.cmpI s.r t.r) _ (by go_simp) (by go_simp)).mono ?_
  rintro e w' ⟨rfl, rfl⟩
  go_wp2
  go_ret
  refine ⟨rfl, ?_⟩
  obtain ⟨q, os, rfl⟩ := HB.out
  exact ⟨q, _, by rw [alloc_eq_grow, grow_grow]⟩

/-- the cells of the entry at an index -/
abbrev pcE (l : List Pl.En) (i : Nat) : List Value := enL (Pl.at' l i)
theorem encPcE (l : List Pl.En) : Enc (pcE l) 4 where
  pos := by decide
  len _ := rfl
  one x v hv := encEn.one (Pl.at' l x) v hv
theorem flt_map {α β : Type} (enc : β → List Value) (f : α → β) (xs : List α) : flt (fun i => enc (f i)) xs = flt enc (xs.map f) := by
  induction xs with
  | nil => rfl
  | cons x xs ih => simp only [List.map_cons]; rw [show x :: xs = [x] ++ xs from rfl, show f x :: xs.map f = [f x] ++ xs.map f from rfl, flt_append, flt_append, ih, flt_one, flt_one]
/-- what inOrder compares, by index -/
def cfI (l : List Pl.En) (i j : Nat) : Int := Pl.cmpE (Pl.at' l i) (Pl.at' l j)
theorem ltOf_cf (l : List Pl.En) (i j : Nat) : ltOf (cfI l) i j = Pl.lt (Pl.at' l i) (Pl.at' l j) := by
  unfold ltOf cfI
  have := Pl.cmpE_lt (Pl.at' l i) (Pl.at' l j)
  cases h : Pl.lt (Pl.at' l i) (Pl.at' l j)
  · rw [h] at this; exact decide_eq_false (fun k => by have := this.1 k; cases this)
  · exact decide_eq_true (this.2 h)
theorem swo_cf (l : List Pl.En) : SWO (ltOf (cfI l)) where
  irrefl x := by rw [ltOf_cf]; exact Pl.lt_irr _
  trans x y z h1 h2 := by
    rw [ltOf_cf] at *
    exact Pl.lt_tr h1 h2
  ntrans x y z h1 h2 := by
    rw [ltOf_cf] at *
    exact Pl.lt_nt h1 h2
theorem tot_cf {l : List Pl.En} (h : Pl.Ok l) (x y : Nat) (h1 : ltOf (cfI l) x y = false) (h2 : ltOf (cfI l) y x = false) : x = y := by
  rw [ltOf_cf] at *
  by_cases e : Pl.nm (Pl.at' l x) = Pl.nm (Pl.at' l y)
  · exact Pl.ok_inj h e
  · rcases Pl.lt_total e with k | k
    · rw [k] at h1; cases h1
    · rw [k] at h2; cases h2
theorem ord_sort (l : List Pl.En) : ((List.range l.length).mergeSort fun x y => !(ltOf (cfI l)) y x) = Pl.ord l := by
  unfold Pl.ord
  congr 1
  funext x y
  rw [ltOf_cf]
theorem io_lays (l : List Pl.En) (blk off size : Nat) (w : World) : CmpLays Try.prog 70 #[] (pcE l) 4 (cfI l) blk off size w := by
  intro m os dk _ x y
  exact io_grow (Pl.at' l x) (Pl.at' l y) _
theorem sort_any (B g c n : Nat) (l : List Pl.En) (h : Pl.Ok l) (hn : l.length = n) (w : World) (hown : w.ownsRow B 72 4 (.slice (some ⟨g, 0, none⟩) n c) n (flt (pcE l) (List.range n))) :
    Calls Try.prog 69 #[.slice (some ⟨g, 0, none⟩) n c, .func (.func 70) #[] #[]] w fun e w' => e = .returned (.tuple #[]) ∧ w'.ownsRow B 72 4 (.slice (some ⟨g, 0, none⟩) n c) n (flt (pcE l) (Pl.ord l)) ∧ Below B w w' := by
  subst hn
  have hl := h.len
  have eg : ∀ args w, (callFunc 70 args).run Try.prog w = .ok (.enter 70 args) w := enters_of Try.func70 (by kernel_rfl) rfl
  have hg : g < w.heap.size := (hown.lt g rfl).2
  have hown2 : w.ownsRow B 72 4 (.slice (some ⟨g, 0, none⟩) (List.range l.length).length c) (List.range l.length).length (flt (pcE l) (List.range l.length)) := by rw [List.length_range]; exact hown
  have hcon := AnyQ.slices_SortFunc_total Try.sortP 4 Try.isAgg72 Try.sizeOf72 (pcE l) (encPcE l).len (encPcE l).one (cfI l) (swo_cf l) 70 #[] g 0 c (List.range l.length).toArray w eg (io_lays l g 0 _ w) (holdsK_own (encPcE l) hown2) hg (by simp; omega) (tot_cf h)
  change Calls Try.prog 69 _ _ _ at hcon
  simp only [List.size_toArray, List.length_range] at hcon
  refine hcon.mono fun e w' ⟨he, n, os, hw⟩ => ⟨he, ?_⟩
  rw [hw, ord_sort]
  have := own_sortK (n := n) (os := os) (encPcE l) (qs := Pl.ord l) (by rw [Pl.ord_len, List.length_range]) hown2
  rw [List.length_range] at this
  exact this
theorem sort_none (w : World) : Calls Try.prog 69 #[.slice none 0 0, .func (.func 70) #[] #[]] w fun e w' => e = .returned (.tuple #[]) ∧ w' = w := by
  have h := AnyF.slices_SortFunc_none Try.sortP none 0 (.func (.func 70) #[] #[]) w
  change Calls Try.prog 69 _ _ _ at h
  exact h
theorem sort_row (B : Nat) (v : Value) (n : Nat) (l : List Pl.En) (h : Pl.Ok l) (hn : l.length = n) (w : World) (hown : w.ownsRow B 72 4 v n (flt enL l)) :
    Calls Try.prog 69 #[v, .func (.func 70) #[] #[]] w fun e w' => e = .returned (.tuple #[]) ∧ w'.ownsRow B 72 4 v n (flt enL (Pl.srt l)) ∧ Below B w w' := by
  have e1 : flt enL l = flt (pcE l) (List.range n) := by
    rw [show flt (pcE l) (List.range n) = flt enL ((List.range n).map (Pl.at' l)) from flt_map enL (Pl.at' l) _, ← hn, Pl.map_at]
  have e2 : flt enL (Pl.srt l) = flt (pcE l) (Pl.ord l) := by
    rw [show flt (pcE l) (Pl.ord l) = flt enL ((Pl.ord l).map (Pl.at' l)) from flt_map enL (Pl.at' l) _, Pl.ord_srt h]
  rw [e1] at hown
  rw [e2]
  have hh := hown
  rcases hown with ⟨h0, ⟨rfl, h1⟩ | ⟨g, cap, cur, rfl, _⟩⟩
  · subst h1
    refine (sort_none w).mono fun e w' ⟨he, hw⟩ => ⟨he, ?_⟩
    subst hw
    have e0 : Pl.ord l = [] := List.eq_nil_of_length_eq_zero (by rw [Pl.ord_len, hn])
    rw [e0]
    exact ⟨hh, Below.refl _ _⟩
  · exact sort_any B g cap n l h hn w hh
end Go.Proofs.Ytalfffkcmddakab
