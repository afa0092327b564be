/- The document's Stab. -/
import Derived.Test.YtghbipipehglfaaA19
import Derived.Laws.AppendOwnNone
namespace Go.Proofs.Ytghbipipehglfaa
open Go.RowKit Go.Shelf

set_option maxRecDepth 100000 in
set_option maxHeartbeats 8000000 in
theorem rstab_any (A : Option Addr) (vs : List Int) (c : Nat) (x : Int) (w : World) (hI : Ints w A vs) :
    Calls Try.prog 20 #[.slice A vs.length c, .int .i64 x] w fun e w' => ∃ v, e = .returned (.tuple #[v, .int .i64 (Pl.lineE vs x [])]) ∧ w'.ownsRow w.heap.size 3 1 v (stabV x vs).length (ints (stabV x vs)) ∧ Below w.heap.size w w' := by
  obtain ⟨i0, hi, hz0, hz1, hz2⟩ := info_parts info3
  have HI := Lib.hid hI
  clear hI
  rcases Pl.lineE_three vs x [] with h0 | h0 | h0
  rotate_left
  iterate 2
    · have HR := Lib.hid h0
      have HS : Hid (stabV x vs = []) := Lib.hid (if_neg (by rw [h0]; decide))
      rw [h0]
      clear h0
      go_enter Try.func20, Try.ntmps20
      go_wp2_with (go_at_call 41; refine (measured_any A none vs [] c 0 x _ HI.out (Ints.nil _ _)).mono ?_; rw [HR.out]; rintro e w' ⟨rfl, rfl⟩)
      go_ret2
      exact ⟨_, rfl, by rw [HS.out]; exact World.ownsRow_nil _ _ _ _, Below.refl _ _⟩
  · obtain ⟨hl200, _, hvs, _, hx0, hx1⟩ := Pl.lineE_zero h0
    have HV := Lib.hid hvs
    have H0 := Lib.hid h0
    rw [h0, show stabV x vs = (Pl.stabT x vs).reverse from if_pos h0]
    have HRUN := Lib.hid (Pl.stab_runs hx0 vs)
    have hFl : (Pl.stabT x vs).length ≤ vs.length := Pl.stabT_len x vs
    generalize Pl.stabT x vs = FIN at *
    clear hvs h0
    go_enter Try.func20, Try.ntmps20
    go_wp2_with (go_at_call 41; refine (measured_any A none vs [] c 0 x _ HI.out (Ints.nil _ _)).mono ?_; rw [H0.out]; rintro e w' ⟨rfl, hw'⟩; obtain rfl : w = w' := hw'.symm)
    go_loopw [7] (fun out wr => ∃ st : List Int, wr.ownsRow w.heap.size 3 1 out st.length (ints (st).reverse) ∧ Hid (Pl.Runs (Pl.stabW x hx0) vs st FIN) ∧ Hid (∀ s, s ∈ st → -2000000 ≤ s ∧ s ≤ 1000000) ∧ Hid (st = [] → out = .slice none 0 0) ∧ Below w.heap.size w wr) (fun out _ => FIN.length + 1 - slen out)
    case atStart => exact ⟨[], World.ownsRow_nil _ _ _ _, HRUN, Lib.hid (by simp), Lib.hid (fun _ => rfl), Below.refl _ _⟩
    case round =>
      obtain ⟨st, hown, hrun, hmem, hnil, hB⟩ := hrel
      obtain ⟨wo, rfl⟩ : ∃ wo : World, wo = wr := ⟨_, rfl⟩
      have hsl := hrun.out.len_le
      rcases List.eq_nil_or_concat st with rfl | ⟨p, s, rfl⟩
      · as_aux_lemma =>
        obtain rfl := hnil.out rfl
        clear hnil
        go_wp2
        go_loop [8, 9, 21] (fun sm top i => ∃ k : Nat, k ≤ vs.length ∧ i = .int .i64 k ∧ sm = .bool (Pl.bstK (Pl.sOpn []) Pl.sGt vs k).isSome ∧ top = .int .i64 ((Pl.bstK (Pl.sOpn []) Pl.sGt vs k).getD 0)) (fun _ _ i => vs.length - (intOf i).toNat)
        case atStart => exact ⟨0, Nat.zero_le _, rfl, rfl, rfl⟩
        case round =>
          obtain ⟨k, hk, rfl, rfl, rfl⟩ := hrel
          by_cases hlt : k < vs.length
          · obtain ⟨bz, oz, rfl, hcz⟩ : ∃ bb off, A = some ⟨bb, off, none⟩ ∧ wo.cell? ⟨bb, off + k, none⟩ = some (.int .i64 (vs.getD k 0)) := by
              rcases HI.out.below hB with h | ⟨bb, off, he, _, hc⟩
              · rw [h] at hlt; simp at hlt
              · exact ⟨bb, off, he, hc k hlt⟩
            have HTK := Lib.hid (bst_take (P := (Pl.sOpn [])) (gt := Pl.sGt) (vs := vs) (k := k))
            have HSK := Lib.hid (bst_skip (P := (Pl.sOpn [])) (gt := Pl.sGt) (vs := vs) (k := k))
            obtain ⟨a1, a2⟩ := HV.out _ (Pl.getD_mem hlt)
            generalize vs.getD k 0 = y at *
            generalize Pl.bstK (Pl.sOpn []) Pl.sGt vs k = o at *
            cases o with
            | none =>
              have HN := Lib.hid (HTK.out rfl (fun t h => by cases h))
              simp only [Option.isSome_none, Option.getD_none]
              go_wp2
              go_round
              case rel => exact ⟨k + 1, by omega, by go_num, by rw [HN.out]; rfl, by rw [HN.out]; rfl⟩
              case measure => simp [intOf]; omega
            | some t =>
              simp only [Option.isSome_some, Option.getD_some]
              by_cases hbt : t < y
              · have HN := Lib.hid (HTK.out rfl (fun t' h => by cases h; simpa [Pl.sGt] using hbt))
                go_wp2
                go_round
                case rel => exact ⟨k + 1, by omega, by go_num, by rw [HN.out]; rfl, by rw [HN.out]; rfl⟩
                case measure => simp [intOf]; omega
              · have HN := Lib.hid (HSK.out (fun h => hbt (by have := h.2 t rfl; simpa [Pl.sGt] using this)))
                have hbt' : y ≤ t := by omega
                clear hbt
                go_wp2
                go_round
                case rel => exact ⟨k + 1, by omega, by go_num, by rw [HN.out]; rfl, by rw [HN.out]; rfl⟩
                case measure => simp [intOf]; omega
          · obtain rfl : k = vs.length := by omega
            have HNO := Lib.hid (fun h => Pl.stab_none hrun.out h)
            have HSO := Lib.hid (fun t h => Pl.stab_some (t := t) hrun.out h)
            generalize Pl.bstK (Pl.sOpn []) Pl.sGt vs vs.length = o at *
            cases o with
            | none =>
              have HF := Lib.hid (HNO.out rfl)
              simp only [Option.isSome_none, Option.getD_none]
              go_wp2
              go_ret2
              exact ⟨_, rfl, by rw [HF.out]; simpa [ints] using hown, hB⟩
            | some t =>
              obtain ⟨htm, hr2⟩ := HSO.out t rfl
              obtain ⟨t1, t2⟩ := HV.out t htm
              have hl2 := hr2.len_le
              have HR2 := Lib.hid hr2
              have HM2 : Hid (∀ s', s' ∈ [] ++ [t - x] → -2000000 ≤ s' ∧ s' ≤ 1000000) := Lib.hid (fun s' hs => by
                rcases List.mem_append.1 hs with h | h
                · exact hmem.out s' h
                · rw [List.mem_singleton.1 h]; omega)
              clear hr2 htm
              simp only [Option.isSome_some, Option.getD_some]
              have hownL := World.ownsRow_lit (base := w.heap.size) (e := 3) (size := 1) wo #[.int .i64 (t - x)] 1 hB.size (by unfold maxLen; omega) rfl
              have hBL := hB.alloc hB.size (.cells #[.int .i64 (t - x)] 3)
              go_wp2_with (at_builtin; refine wpList_append_own_none rfl _ _ 32 rfl w.heap.size 3 i0 1 Try.underlying32 hi _ 1 [.int .i64 (t - x)] rfl hownL rfl ?_)
              go_roundw
              case rel => exact ⟨[] ++ [t - x], by simpa [ints] using hownL, HR2, HM2, Lib.hid (fun h => by simp at h), hBL⟩
              case measure => simp [slen] at hl2 ⊢; try omega
      · rw [List.concat_eq_append] at *
        as_aux_lemma =>
        have hpl : (p ++ [s]).length = p.length + 1 := by simp
        obtain ⟨s1, s2⟩ := hmem.out s (by simp)
        rw [hpl] at hown hsl
        obtain ⟨g, cap, rfl⟩ := ownsRow_succ hown
        have hcs : wo.cell? ⟨g, 0, none⟩ = some (.int .i64 s) := by
          rw [hown.cellAt 0 (by omega)]
          simp [ints]
        have HOWN : Hid (wo.ownsRow w.heap.size 3 1 (.slice (some ⟨g, 0, none⟩) (p.length + 1) cap) (p ++ [s]).length (ints (p ++ [s]).reverse)) := Lib.hid (by rw [hpl]; exact hown)
        clear hpl hown hnil
        have hpe : ((p.length : Int) + 1 == 0) = false := by simp; omega
        go_wp2
        go_loop [8, 9, 21] (fun sm top i => ∃ k : Nat, k ≤ vs.length ∧ i = .int .i64 k ∧ sm = .bool (Pl.bstK (Pl.sOpn (p ++ [s])) Pl.sGt vs k).isSome ∧ top = .int .i64 ((Pl.bstK (Pl.sOpn (p ++ [s])) Pl.sGt vs k).getD 0)) (fun _ _ i => vs.length - (intOf i).toNat)
        case atStart => exact ⟨0, Nat.zero_le _, rfl, rfl, rfl⟩
        case round =>
          obtain ⟨k, hk, rfl, rfl, rfl⟩ := hrel
          by_cases hlt : k < vs.length
          · obtain ⟨bz, oz, rfl, hcz⟩ : ∃ bb off, A = some ⟨bb, off, none⟩ ∧ wo.cell? ⟨bb, off + k, none⟩ = some (.int .i64 (vs.getD k 0)) := by
              rcases HI.out.below hB with h | ⟨bb, off, he, _, hc⟩
              · rw [h] at hlt; simp at hlt
              · exact ⟨bb, off, he, hc k hlt⟩
            have HTK := Lib.hid (bst_take (P := (Pl.sOpn (p ++ [s]))) (gt := Pl.sGt) (vs := vs) (k := k))
            have HSK := Lib.hid (bst_skip (P := (Pl.sOpn (p ++ [s]))) (gt := Pl.sGt) (vs := vs) (k := k))
            obtain ⟨a1, a2⟩ := HV.out _ (Pl.getD_mem hlt)
            generalize vs.getD k 0 = y at *
            generalize Pl.bstK (Pl.sOpn (p ++ [s])) Pl.sGt vs k = o at *
            by_cases hys : y < s
            · have HOP : Hid ((Pl.sOpn (p ++ [s])) y = true) := Lib.hid (by simp [Pl.sOpn, hys])
              cases o with
              | none =>
                have HN := Lib.hid (HTK.out (HOP.out) (fun t h => by cases h))
                simp only [Option.isSome_none, Option.getD_none]
                go_wp2
                go_round
                case rel => exact ⟨k + 1, by omega, by go_num, by rw [HN.out]; rfl, by rw [HN.out]; rfl⟩
                case measure => simp [intOf]; omega
              | some t =>
                simp only [Option.isSome_some, Option.getD_some]
                by_cases hbt : t < y
                · have HN := Lib.hid (HTK.out (HOP.out) (fun t' h => by cases h; simpa [Pl.sGt] using hbt))
                  go_wp2
                  go_round
                  case rel => exact ⟨k + 1, by omega, by go_num, by rw [HN.out]; rfl, by rw [HN.out]; rfl⟩
                  case measure => simp [intOf]; omega
                · have HN := Lib.hid (HSK.out (fun h => hbt (by have := h.2 t rfl; simpa [Pl.sGt] using this)))
                  have hbt' : y ≤ t := by omega
                  clear hbt
                  go_wp2
                  go_round
                  case rel => exact ⟨k + 1, by omega, by go_num, by rw [HN.out]; rfl, by rw [HN.out]; rfl⟩
                  case measure => simp [intOf]; omega
            · have hsy : s ≤ y := by omega
              have HN := Lib.hid (HSK.out (fun h => hys (by have := h.1; simpa [Pl.sOpn] using this)))
              clear hys
              go_wp2
              go_round
              case rel => exact ⟨k + 1, by omega, by go_num, by rw [HN.out], by rw [HN.out]⟩
              case measure => simp [intOf]; omega
          · obtain rfl : k = vs.length := by omega
            have HNO := Lib.hid (fun h => Pl.stab_none hrun.out h)
            have HSO := Lib.hid (fun t h => Pl.stab_some (t := t) hrun.out h)
            generalize Pl.bstK (Pl.sOpn (p ++ [s])) Pl.sGt vs vs.length = o at *
            cases o with
            | none =>
              have HF := Lib.hid (HNO.out rfl)
              simp only [Option.isSome_none, Option.getD_none]
              go_wp2
              go_ret2
              exact ⟨_, rfl, by rw [HF.out]; simpa [ints] using HOWN.out, hB⟩
            | some t =>
              obtain ⟨htm, hr2⟩ := HSO.out t rfl
              obtain ⟨t1, t2⟩ := HV.out t htm
              have hl2 := hr2.len_le
              have HR2 := Lib.hid hr2
              have HM2 : Hid (∀ s', s' ∈ (p ++ [s]) ++ [t - x] → -2000000 ≤ s' ∧ s' ≤ 1000000) := Lib.hid (fun s' hs => by
                rcases List.mem_append.1 hs with h | h
                · exact hmem.out s' h
                · rw [List.mem_singleton.1 h]; omega)
              clear hr2 htm
              simp only [Option.isSome_some, Option.getD_some]
              simp only [List.length_append, List.length_singleton] at hl2
              have hownL := World.ownsRow_lit (base := w.heap.size) (e := 3) (size := 1) wo #[.int .i64 (t - x)] 1 hB.size (by unfold maxLen; omega) rfl
              have hBL := hB.alloc hB.size (.cells #[.int .i64 (t - x)] 3)
              have HNC := Lib.hid ((HOWN.out.alloc (.cells #[.int .i64 (t - x)] 3)).cells (g := g) rfl)
              go_wp2_with (at_builtin; refine wpList_append_own _ rfl _ _ 32 rfl w.heap.size 3 i0 (.int .i64 0) 1 8 Try.underlying32 hi hz0 hz1 hz2 rfl (by decide) _ 1 [.int .i64 (t - x)] rfl hownL ⟨g, 0, none⟩ (p.length + 1) cap (ints (p ++ [s]).reverse) rfl (by simp) HNC.out (ints_one _) (by unfold maxLen; omega) (by omega) (by have := hB.size; simp; omega) ?_; intro v' w3 hown' hgrow _; have hB2 := hBL.grown hgrow (by have := hB.size; simp; omega) (fun k e => (hownL.lt k e).1))
              obtain ⟨A2, c2, rfl⟩ := own_slice hown'
              go_roundw
              case rel => exact ⟨p ++ [s] ++ [t - x], by rw [show (p ++ [s] ++ [t - x]).length = 1 + (p.length + 1) from by simp; omega]; simpa [ints] using hown', HR2, HM2, Lib.hid (fun h => by simp at h), hB2⟩
              case measure => simp [slen] at hl2 ⊢; try omega
end Go.Proofs.Ytghbipipehglfaa
