/- The document's Spread. -/
import Derived.Test.YtghbipipehglfaaA18
import Derived.Laws.AppendOwnNone
namespace Go.Proofs.Ytghbipipehglfaa
open Go.RowKit Go.Shelf

def slen : Value → Nat
  | .slice _ n _ => n
  | _ => 0
theorem bst_take {P : Int → Bool} {gt : Int → Int → Bool} {vs : List Int} {k : Nat} (h1 : P (vs.getD k 0) = true) (h2 : ∀ t, Pl.bstK P gt vs k = some t → gt (vs.getD k 0) t = true) : Pl.bstK P gt vs (k + 1) = some (vs.getD k 0) := if_pos ⟨h1, h2⟩
theorem bst_skip {P : Int → Bool} {gt : Int → Int → Bool} {vs : List Int} {k : Nat} (h : ¬ (P (vs.getD k 0) = true ∧ ∀ t, Pl.bstK P gt vs k = some t → gt (vs.getD k 0) t = true)) : Pl.bstK P gt vs (k + 1) = Pl.bstK P gt vs k := if_neg h

set_option maxRecDepth 100000 in
set_option maxHeartbeats 8000000 in
theorem rspread_any (A : Option Addr) (vs : List Int) (c : Nat) (x : Int) (w : World) (hI : Ints w A vs) :
    Calls Try.prog 22 #[.slice A vs.length c, .int .i64 x] w fun e w' => ∃ v, e = .returned (.tuple #[v, .int .i64 (Pl.lineE vs x [])]) ∧ w'.ownsRow w.heap.size 3 1 v (sprdV x vs).length (ints (sprdV x vs)) ∧ Below w.heap.size w w' := by
  have HI := Lib.hid hI
  clear hI
  rcases Pl.lineE_three vs x [] with h0 | h0 | h0
  rotate_left
  iterate 2
    · have HR := Lib.hid h0
      have HS : Hid (sprdV x vs = []) := Lib.hid (if_neg (by rw [h0]; decide))
      rw [h0]
      clear h0
      go_enter Try.func22, Try.ntmps22
      go_wp2_with (go_at_call 41; refine (measured_any A none vs [] c 0 x _ HI.out (Ints.nil _ _)).mono ?_; rw [HR.out]; rintro e w' ⟨rfl, rfl⟩)
      go_ret2
      exact ⟨_, rfl, by rw [HS.out]; exact World.ownsRow_nil _ _ _ _, Below.refl _ _⟩
  · obtain ⟨hl200, _, hvs, _, hx0, hx1⟩ := Pl.lineE_zero h0
    have HV := Lib.hid hvs
    have H0 := Lib.hid h0
    rw [h0, show sprdV x vs = Pl.sprdT x vs from if_pos h0]
    have HRUN := Lib.hid (Pl.sprd_runs hx0 vs)
    have hFl : (Pl.sprdT x vs).length ≤ vs.length := Pl.sprdT_len x vs
    generalize Pl.sprdT x vs = FIN at *
    clear hvs h0
    go_enter Try.func22, Try.ntmps22
    go_wp2_with (go_at_call 41; refine (measured_any A none vs [] c 0 x _ HI.out (Ints.nil _ _)).mono ?_; rw [H0.out]; rintro e w' ⟨rfl, hw'⟩; obtain rfl : w = w' := hw'.symm)
    go_loopw [7] (fun out wr => ∃ st : List Int, wr.ownsRow w.heap.size 3 1 out st.length (ints st) ∧ Hid (Pl.Runs (Pl.sprdW x hx0) vs st FIN) ∧ Hid (∀ s, s ∈ st → -2000000 ≤ s ∧ s ≤ 1000000) ∧ Hid (st = [] → out = .slice none 0 0) ∧ Below w.heap.size w wr) (fun out _ => FIN.length + 1 - slen out)
    case atStart => exact ⟨[], World.ownsRow_nil _ _ _ _, HRUN, Lib.hid (by simp), Lib.hid (fun _ => rfl), Below.refl _ _⟩
    case round =>
      obtain ⟨st, hown, hrun, hmem, hnil, hB⟩ := hrel
      obtain ⟨wo, rfl⟩ : ∃ wo : World, wo = wr := ⟨_, rfl⟩
      have hsl := hrun.out.len_le
      rcases List.eq_nil_or_concat st with rfl | ⟨p, s, rfl⟩
      · as_aux_lemma =>
        obtain rfl := hnil.out rfl
        clear hnil
        go_wp2
        go_loop [8, 9, 21] (fun sm top i => ∃ k : Nat, k ≤ vs.length ∧ i = .int .i64 k ∧ sm = .bool (Pl.bstK (Pl.pOpn x []) Pl.pGt vs k).isSome ∧ top = .int .i64 ((Pl.bstK (Pl.pOpn x []) Pl.pGt vs k).getD 0)) (fun _ _ i => vs.length - (intOf i).toNat)
        case atStart => exact ⟨0, Nat.zero_le _, rfl, rfl, rfl⟩
        case round =>
          obtain ⟨k, hk, rfl, rfl, rfl⟩ := hrel
          by_cases hlt : k < vs.length
          · obtain ⟨bz, oz, rfl, hcz⟩ : ∃ bb off, A = some ⟨bb, off, none⟩ ∧ wo.cell? ⟨bb, off + k, none⟩ = some (.int .i64 (vs.getD k 0)) := by
              rcases HI.out.below hB with h | ⟨bb, off, he, _, hc⟩
              · rw [h] at hlt; simp at hlt
              · exact ⟨bb, off, he, hc k hlt⟩
            have HTK := Lib.hid (bst_take (P := (Pl.pOpn x [])) (gt := Pl.pGt) (vs := vs) (k := k))
            have HSK := Lib.hid (bst_skip (P := (Pl.pOpn x [])) (gt := Pl.pGt) (vs := vs) (k := k))
            obtain ⟨a1, a2⟩ := HV.out _ (Pl.getD_mem hlt)
            generalize vs.getD k 0 = y at *
            generalize Pl.bstK (Pl.pOpn x []) Pl.pGt vs k = o at *
            cases o with
            | none =>
              have HN := Lib.hid (HTK.out rfl (fun t h => by cases h))
              simp only [Option.isSome_none, Option.getD_none]
              go_wp2
              go_round
              case rel => exact ⟨k + 1, by omega, by go_num, by rw [HN.out]; rfl, by rw [HN.out]; rfl⟩
              case measure => simp [intOf]; omega
            | some t =>
              simp only [Option.isSome_some, Option.getD_some]
              by_cases hbt : y < t
              · have HN := Lib.hid (HTK.out rfl (fun t' h => by cases h; simpa [Pl.pGt] using hbt))
                go_wp2
                go_round
                case rel => exact ⟨k + 1, by omega, by go_num, by rw [HN.out]; rfl, by rw [HN.out]; rfl⟩
                case measure => simp [intOf]; omega
              · have HN := Lib.hid (HSK.out (fun h => hbt (by have := h.2 t rfl; simpa [Pl.pGt] using this)))
                have hbt' : t ≤ y := by omega
                clear hbt
                go_wp2
                go_round
                case rel => exact ⟨k + 1, by omega, by go_num, by rw [HN.out]; rfl, by rw [HN.out]; rfl⟩
                case measure => simp [intOf]; omega
          · obtain rfl : k = vs.length := by omega
            have HNO := Lib.hid (fun h => Pl.sprd_none hrun.out h)
            have HSO := Lib.hid (fun t h => Pl.sprd_some (t := t) hrun.out h)
            generalize Pl.bstK (Pl.pOpn x []) Pl.pGt vs vs.length = o at *
            cases o with
            | none =>
              have HF := Lib.hid (HNO.out rfl)
              simp only [Option.isSome_none, Option.getD_none]
              go_wp2
              go_ret2
              exact ⟨_, rfl, by rw [HF.out]; exact hown, hB⟩
            | some t =>
              obtain ⟨htm, hr2⟩ := HSO.out t rfl
              obtain ⟨t1, t2⟩ := HV.out t htm
              have hl2 := hr2.len_le
              have HR2 := Lib.hid hr2
              have HM2 : Hid (∀ s', s' ∈ [] ++ [t] → -2000000 ≤ s' ∧ s' ≤ 1000000) := Lib.hid (fun s' hs => by
                rcases List.mem_append.1 hs with h | h
                · exact hmem.out s' h
                · rw [List.mem_singleton.1 h]; omega)
              clear hr2 htm
              simp only [Option.isSome_some, Option.getD_some]
              go_wp2_with (at_builtin; refine ap_int (l := []) (n := t) (hown.alloc _) rfl _ _ rfl rfl _ rfl ((Blk.new _ _ _).cell 0) (by simp) (by have := hB.size; simp; omega) ?_; intro v' w3 hown' hgrow; have hB2 := (hB.alloc hB.size _).grown hgrow (by have := hB.size; simp; omega) (fun k e => (hown.lt k e).1))
              obtain ⟨A2, c2, rfl⟩ := own_slice hown'
              go_roundw
              case rel => exact ⟨[] ++ [t], hown', HR2, HM2, Lib.hid (fun h => by simp at h), hB2⟩
              case measure => simp [slen] at hl2 ⊢; try omega
      · rw [List.concat_eq_append] at *
        as_aux_lemma =>
        have hpl : (p ++ [s]).length = p.length + 1 := by simp
        obtain ⟨s1, s2⟩ := hmem.out s (by simp)
        rw [hpl] at hown hsl
        obtain ⟨g, cap, rfl⟩ := ownsRow_succ hown
        have hcs : wo.cell? ⟨g, p.length, none⟩ = some (.int .i64 s) := by
          rw [hown.cellAt p.length (by omega)]
          simp [ints]
        have HOWN : Hid (wo.ownsRow w.heap.size 3 1 (.slice (some ⟨g, 0, none⟩) (p.length + 1) cap) (p ++ [s]).length (ints (p ++ [s]))) := Lib.hid (by rw [hpl]; exact hown)
        clear hpl hown hnil
        have hpe : ((p.length : Int) + 1 == 0) = false := by simp; omega
        go_wp2
        go_loop [8, 9, 21] (fun sm top i => ∃ k : Nat, k ≤ vs.length ∧ i = .int .i64 k ∧ sm = .bool (Pl.bstK (Pl.pOpn x (p ++ [s])) Pl.pGt vs k).isSome ∧ top = .int .i64 ((Pl.bstK (Pl.pOpn x (p ++ [s])) Pl.pGt vs k).getD 0)) (fun _ _ i => vs.length - (intOf i).toNat)
        case atStart => exact ⟨0, Nat.zero_le _, rfl, rfl, rfl⟩
        case round =>
          obtain ⟨k, hk, rfl, rfl, rfl⟩ := hrel
          by_cases hlt : k < vs.length
          · obtain ⟨bz, oz, rfl, hcz⟩ : ∃ bb off, A = some ⟨bb, off, none⟩ ∧ wo.cell? ⟨bb, off + k, none⟩ = some (.int .i64 (vs.getD k 0)) := by
              rcases HI.out.below hB with h | ⟨bb, off, he, _, hc⟩
              · rw [h] at hlt; simp at hlt
              · exact ⟨bb, off, he, hc k hlt⟩
            have HTK := Lib.hid (bst_take (P := (Pl.pOpn x (p ++ [s]))) (gt := Pl.pGt) (vs := vs) (k := k))
            have HSK := Lib.hid (bst_skip (P := (Pl.pOpn x (p ++ [s]))) (gt := Pl.pGt) (vs := vs) (k := k))
            obtain ⟨a1, a2⟩ := HV.out _ (Pl.getD_mem hlt)
            generalize vs.getD k 0 = y at *
            generalize Pl.bstK (Pl.pOpn x (p ++ [s])) Pl.pGt vs k = o at *
            by_cases hys : s + x < y
            · have HOP : Hid ((Pl.pOpn x (p ++ [s])) y = true) := Lib.hid (by simp [Pl.pOpn, hys])
              cases o with
              | none =>
                have HN := Lib.hid (HTK.out (HOP.out) (fun t h => by cases h))
                simp only [Option.isSome_none, Option.getD_none]
                go_wp2
                go_round
                case rel => exact ⟨k + 1, by omega, by go_num, by rw [HN.out]; rfl, by rw [HN.out]; rfl⟩
                case measure => simp [intOf]; omega
              | some t =>
                simp only [Option.isSome_some, Option.getD_some]
                by_cases hbt : y < t
                · have HN := Lib.hid (HTK.out (HOP.out) (fun t' h => by cases h; simpa [Pl.pGt] using hbt))
                  go_wp2
                  go_round
                  case rel => exact ⟨k + 1, by omega, by go_num, by rw [HN.out]; rfl, by rw [HN.out]; rfl⟩
                  case measure => simp [intOf]; omega
                · have HN := Lib.hid (HSK.out (fun h => hbt (by have := h.2 t rfl; simpa [Pl.pGt] using this)))
                  have hbt' : t ≤ y := by omega
                  clear hbt
                  go_wp2
                  go_round
                  case rel => exact ⟨k + 1, by omega, by go_num, by rw [HN.out]; rfl, by rw [HN.out]; rfl⟩
                  case measure => simp [intOf]; omega
            · have hsy : y ≤ s + x := by omega
              have HN := Lib.hid (HSK.out (fun h => hys (by have := h.1; simpa [Pl.pOpn] using this)))
              clear hys
              go_wp2
              go_round
              case rel => exact ⟨k + 1, by omega, by go_num, by rw [HN.out], by rw [HN.out]⟩
              case measure => simp [intOf]; omega
          · obtain rfl : k = vs.length := by omega
            have HNO := Lib.hid (fun h => Pl.sprd_none hrun.out h)
            have HSO := Lib.hid (fun t h => Pl.sprd_some (t := t) hrun.out h)
            generalize Pl.bstK (Pl.pOpn x (p ++ [s])) Pl.pGt vs vs.length = o at *
            cases o with
            | none =>
              have HF := Lib.hid (HNO.out rfl)
              simp only [Option.isSome_none, Option.getD_none]
              go_wp2
              go_ret2
              exact ⟨_, rfl, by rw [HF.out]; exact HOWN.out, hB⟩
            | some t =>
              obtain ⟨htm, hr2⟩ := HSO.out t rfl
              obtain ⟨t1, t2⟩ := HV.out t htm
              have hl2 := hr2.len_le
              have HR2 := Lib.hid hr2
              have HM2 : Hid (∀ s', s' ∈ (p ++ [s]) ++ [t] → -2000000 ≤ s' ∧ s' ≤ 1000000) := Lib.hid (fun s' hs => by
                rcases List.mem_append.1 hs with h | h
                · exact hmem.out s' h
                · rw [List.mem_singleton.1 h]; omega)
              clear hr2 htm
              simp only [Option.isSome_some, Option.getD_some]
              simp only [List.length_append, List.length_singleton] at hl2
              have hpl2 : (p ++ [s]).length ≤ 100000 := by simp; omega
              go_wp2_with (at_builtin; refine ap_int (l := p ++ [s]) (n := t) (HOWN.out.alloc _) rfl _ _ rfl rfl _ rfl ((Blk.new _ _ _).cell 0) hpl2 (by have := hB.size; simp; omega) ?_; intro v' w3 hown' hgrow; have hB2 := (hB.alloc hB.size _).grown hgrow (by have := hB.size; simp; omega) (fun k e => (HOWN.out.lt k e).1))
              obtain ⟨A2, c2, rfl⟩ := own_slice hown'
              go_roundw
              case rel => exact ⟨(p ++ [s]) ++ [t], hown', HR2, HM2, Lib.hid (fun h => by simp at h), hB2⟩
              case measure => simp [slen] at hl2 ⊢; try omega
end Go.Proofs.Ytghbipipehglfaa
