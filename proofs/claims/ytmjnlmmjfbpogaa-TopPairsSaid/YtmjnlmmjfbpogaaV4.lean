/- byLength. -/
import Derived.Test.YtmjnlmmjfbpogaaV3
import Derived.Test.YtmjnlmmjfbpogaaF1
import Derived.Test.YtmjnlmmjfbpogaaShelf1
namespace Go.Proofs.Ytmjnlmmjfbpogaa
open Go.RowKit Go.Shelf Go.Sort Go.Lib

/-- the cells of a temple with its place -/
abbrev pc (l : List Pl.Tm) (i : Nat) : List Value := pcL (Pl.at' l i) i
theorem encPc (l : List Pl.Tm) : Enc (pc l) 5 where
  pos := by decide
  len _ := rfl
  one x v hv := by simp [pc, pcL] at hv; rcases hv with rfl | rfl | rfl | rfl | rfl <;> rfl
theorem pcL_one (t : Pl.Tm) (i : Nat) : ∀ v ∈ pcL t i, v.oneCell' = true := by
  intro v hv
  simp [pcL] at hv; rcases hv with rfl | rfl | rfl | rfl | rfl <;> rfl
theorem info94 : (Try.prog.info? 94).map (fun i => (i.zero, i.size, i.bytes)) = some (some (.agg #[.int .i64 0, .int .i64 0, .int .i64 0, .int .i64 0, .int .i64 0]), 5, 40) := by kernel_rfl

/-- what byLength compares, by index -/
def cfI (l : List Pl.Tm) (i j : Nat) : Int := Pl.fbI (Pl.at' l i) (Pl.at' l j)
theorem ltOf_cf (l : List Pl.Tm) (i j : Nat) : ltOf (cfI l) i j = decide (Pl.Low (Pl.at' l i) (Pl.at' l j)) := by
  unfold ltOf cfI
  rw [decide_eq_decide]
  exact Pl.fbI_low _ _
theorem swo_cf (l : List Pl.Tm) : SWO (ltOf (cfI l)) where
  irrefl x := by rw [ltOf_cf]; exact decide_eq_false (Pl.low_irrefl _)
  trans x y z h1 h2 := by
    rw [ltOf_cf] at *
    simp only [decide_eq_true_eq] at *
    exact Pl.low_trans h1 h2
  ntrans x y z h1 h2 := by
    rw [ltOf_cf] at *
    simp only [decide_eq_false_iff_not] at *
    unfold Pl.Low at *
    omega
theorem tot_cf {l : List Pl.Tm} (h : Pl.Ok l) (x y : Nat) (h1 : ltOf (cfI l) x y = false) (h2 : ltOf (cfI l) y x = false) : x = y := by
  rw [ltOf_cf] at *
  simp only [decide_eq_false_iff_not] at *
  by_cases e : (Pl.at' l x).num = (Pl.at' l y).num
  · exact h.num _ _ e
  · rcases Pl.low_total _ _ e with k | k
    · exact absurd k h1
    · exact absurd k h2
theorem ord_sort (l : List Pl.Tm) : ((List.range l.length).mergeSort fun x y => !(ltOf (cfI l)) y x) = Pl.ord l := by
  unfold Pl.ord
  congr 1
  funext x y
  rw [ltOf_cf]
theorem bl_lays (l : List Pl.Tm) (blk off size : Nat) (w : World) : CmpLays Try.prog 80 #[] (pc l) 5 (cfI l) blk off size w := by
  intro m os dk _ x y
  exact bl_grow (Pl.at' l x) (Pl.at' l y) x y _
theorem sort_any (B g c n : Nat) (l : List Pl.Tm) (h : Pl.Ok l) (hn : l.length = n) (w : World) (hown : w.ownsRow B 94 5 (.slice (some ⟨g, 0, none⟩) n c) n (flt (pc l) (List.range n))) :
    Calls Try.prog 79 #[.slice (some ⟨g, 0, none⟩) n c, .func (.func 80) #[] #[]] w fun e w' => e = .returned (.tuple #[]) ∧ w'.ownsRow B 94 5 (.slice (some ⟨g, 0, none⟩) n c) n (flt (pc l) (Pl.ord l)) ∧ Below B w w' := by
  subst hn
  have hl := h.len
  have eg : ∀ args w, (callFunc 80 args).run Try.prog w = .ok (.enter 80 args) w := enters_of Try.func80 (by kernel_rfl) rfl
  have hg : g < w.heap.size := (hown.lt g rfl).2
  have hown2 : w.ownsRow B 94 5 (.slice (some ⟨g, 0, none⟩) (List.range l.length).length c) (List.range l.length).length (flt (pc l) (List.range l.length)) := by rw [List.length_range]; exact hown
  have hcon := AnyQ.slices_SortFunc_total Try.sortP 5 Try.isAgg94 Try.sizeOf94 (pc l) (encPc l).len (encPc l).one (cfI l) (swo_cf l) 80 #[] g 0 c (List.range l.length).toArray w eg (bl_lays l g 0 _ w) (holdsK_own (encPc l) hown2) hg (by simp; omega) (tot_cf h)
  change Calls Try.prog 79 _ _ _ at hcon
  simp only [List.size_toArray, List.length_range] at hcon
  refine hcon.mono fun e w' ⟨he, n, os, hw⟩ => ⟨he, ?_⟩
  rw [hw, ord_sort]
  have := own_sortK (n := n) (os := os) (encPc l) (qs := Pl.ord l) (by rw [Pl.ord_len, List.length_range]) hown2
  rw [List.length_range] at this
  exact this
theorem sort_none (w : World) : Calls Try.prog 79 #[.slice none 0 0, .func (.func 80) #[] #[]] w fun e w' => e = .returned (.tuple #[]) ∧ w' = w := by
  have h := AnyF.slices_SortFunc_none Try.sortP none 0 (.func (.func 80) #[] #[]) w
  change Calls Try.prog 79 _ _ _ at h
  exact h
theorem sort_row (B : Nat) (v : Value) (n : Nat) (l : List Pl.Tm) (h : Pl.Ok l) (hn : l.length = n) (w : World) (hown : w.ownsRow B 94 5 v n (flt (pc l) (List.range n))) :
    Calls Try.prog 79 #[v, .func (.func 80) #[] #[]] w fun e w' => e = .returned (.tuple #[]) ∧ w'.ownsRow B 94 5 v n (flt (pc l) (Pl.ord l)) ∧ Below B w w' := by
  have hh := hown
  rcases hown with ⟨h0, ⟨rfl, h1⟩ | ⟨g, cap, cur, rfl, _⟩⟩
  · subst h1
    refine (sort_none w).mono fun e w' ⟨he, hw⟩ => ⟨he, ?_⟩
    subst hw
    have e0 : Pl.ord l = [] := List.eq_nil_of_length_eq_zero (by rw [Pl.ord_len, hn])
    rw [e0]
    exact ⟨hh, Below.refl _ _⟩
  · exact sort_any B g cap n l h hn w hh

set_option maxRecDepth 100000 in
set_option maxHeartbeats 4000000 in
theorem bylength_any (A : Option Addr) (l : List Pl.Tm) (c n : Nat) (hn : l.length = n) (h : Pl.Ok l) (w : World) (hI : Tms w A l) :
    Calls Try.prog 73 #[.slice A n c] w fun e w' => ∃ v, e = .returned v ∧ w'.ownsRow w.heap.size 94 5 v n (flt (pc l) (Pl.ord l)) ∧ Below w.heap.size w w' := by
  have HI := Lib.hid hI
  have HO := Lib.hid h
  have HN := Lib.hid hn
  have hl : n ≤ 60 := hn ▸ h.len
  clear hI h hn
  obtain ⟨i0, hi, hz0, hz1, hz2⟩ := info_parts info94
  go_enter Try.func73, Try.ntmps73
  go_wp2
  go_loopw [3, 8] (fun v i wr => ∃ k : Nat, k ≤ n ∧ i = .int .i64 k ∧ wr.ownsRow w.heap.size 94 5 v k (flt (pc l) (List.range k)) ∧ Below w.heap.size w wr) (fun _ i _ => n - (intOf i).toNat)
  case atStart => exact ⟨0, Nat.zero_le _, rfl, World.ownsRow_nil _ _ _ _, Below.refl _ _⟩
  case round =>
    obtain ⟨k, hk, rfl, hown, hB⟩ := hrel
    obtain ⟨wo, rfl⟩ : ∃ wo, wo = wr := ⟨_, rfl⟩
    by_cases hlt : k < n
    · have hltl : k < l.length := by rw [HN.out]; exact hlt
      obtain ⟨bz, oz, rfl, hbz, hcz⟩ : ∃ bb off, A = some ⟨bb, off, none⟩ ∧ bb < w.heap.size ∧ ∀ j, j < l.length → w.rangeAt bb (off + j * 4) (tmA (l.getD j Pl.zt)).toList := by
        rcases HI.out with h | ⟨bb, off, he, hb, hc⟩
        · rw [h] at hltl; simp at hltl
        · exact ⟨bb, off, he, hb, hc⟩
      have hck := rangeAt_below (hcz k hltl) hbz hB
      rw [Pl.at_getD hltl] at hck
      have HR : Hid (flt (pc l) (List.range (k + 1)) = flt (pc l) (List.range k) ++ pcL (Pl.at' l k) k) := Lib.hid (by rw [List.range_succ, flt_append, flt_one])
      clear hcz hltl
      generalize Pl.at' l k = E at *
      have hB1 := hB.alloc hB.size (.cells (tmA E) 24)
      have hown1 := hown.alloc (.cells (tmA E) 24)
      have bE := Blk.new wo 24 (tmA E)
      have hr := bE.range
      go_wp2_with (first | refine ldm_tm hck rfl _ rfl rfl ?_ | refine ldm_tm hr rfl _ rfl rfl ?_ | (at_builtin; go_loud (refine wpList_append_own _ rfl _ _ 85 rfl w.heap.size 94 i0 _ 5 40 Try.underlying85 hi hz0 hz1 hz2 rfl (by decide) _ _ _ rfl (hown1.alloc _) ⟨wo.heap.size + 1, 0, none⟩ 1 1 (pcL E k) rfl rfl (new_cells' _ _ _ (by simp)) (pcL_one E k) (by unfold maxLen; omega) (by omega) (by have := hB1.size; simp at this ⊢; omega) ?_; intro v' w1 hown' hgrow _)))
      have hB2 := (hB1.alloc hB1.size (.cells (pcL E k).toArray 94)).grown hgrow (hB1.alloc hB1.size _).size (fun s e => (hown.lt s e).1)
      have HO1 := Lib.hid hown'
      clear hown' hgrow hown hown1 hB hB1 bE hck hr
      go_roundw
      case rel => exact ⟨k + 1, by omega, by go_num, by rw [HR.out]; exact HO1.out, hB2⟩
      case measure => simp [intOf]; omega
    · obtain rfl : k = n := by omega
      go_wp2_with fail
      refine (sort_row w.heap.size _ k l HO.out HN.out _ hown).mono ?_
      rintro e w1 ⟨rfl, hown1, hb1⟩
      have hB1 := hB.trans hb1
      have HO1 := Lib.hid hown1
      clear hown1 hb1 hown hB
      go_wp2
      go_ret
      exact ⟨_, rfl, HO1.out, hB1⟩
end Go.Proofs.Ytmjnlmmjfbpogaa
