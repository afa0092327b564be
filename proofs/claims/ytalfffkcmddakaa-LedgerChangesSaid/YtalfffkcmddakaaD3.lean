/- due of the program; Due of both. -/
import Derived.Test.YtalfffkcmddakaaD2
import Derived.Test.YtalfffkcmddakaaQ6
import Derived.Test.YtalfffkcmddakaaShelf2
import Derived.Sort.OwnSortedInts
namespace Go.Proofs.Ytalfffkcmddakaa
open Go.RowKit Go.Shelf Go.Sort

theorem flt_inL (d : List Int) : flt inL d = d.map (Value.int .i64) := by
  induction d with
  | nil => rfl
  | cons x d ih => rw [flt_cons, ih]; rfl
/-- the program's own sorted list -/
theorem sort_ints (B : Nat) (v : Value) (d T : List Int) (n : Nat) (hn : d.length = n) (h60 : n ≤ 1000) (hT : d.mergeSort (fun x y => decide (x ≤ y)) = T) (w : World)
    (hown : w.ownsRow B 3 1 v n (flt inL d)) :
    Calls Try.prog 96 #[v] w fun e w' => e = .returned (.tuple #[]) ∧ w'.ownsRow B 3 1 v n (flt inL T) ∧ Below B w w' := by
  subst hn
  have hlen : T.length = d.length := by
    have := congrArg List.length hT
    rw [List.length_mergeSort] at this
    exact this.symm
  have hh := hown
  rcases hown with ⟨h0, ⟨rfl, h1⟩ | ⟨g, cap, cur, rfl, hbase, hb, h1, h2, h3, h4⟩⟩
  · have eT : T = [] := List.eq_nil_of_length_eq_zero (by omega)
    subst eT
    have ed : d = [] := List.eq_nil_of_length_eq_zero h1
    subst ed
    refine (Try.slices_Sort_int_none none 0 w).mono fun e w' ⟨he, hw⟩ => ⟨he, ?_⟩
    subst hw
    exact ⟨hh, Below.refl _ _⟩
  · have hg : g < w.heap.size := (hh.lt g rfl).2
    have hH := holds_of_blockI (ss := d) hb (by rw [← flt_inL, ← h4, Nat.mul_one])
    have hcon := Try.slices_Sort_int g 0 cap d w hH hg (by omega)
    refine hcon.mono fun e w' ⟨he, k, os, hw⟩ => ⟨he, ?_⟩
    rw [hw, hT]
    have ho := ownsRow_sortedI (n := k) (os := os) (ss := d) (ts := T) (by rw [hlen]) hbase hb h1 h2 h3
    rw [← flt_inL] at ho
    exact ⟨ho, (Below.refl B w).grown (grownBy_sortedI _) (by omega) (fun s e => by cases e; exact hbase)⟩

theorem info_int : (Try.prog.info? 3).map (fun i => (i.zero, i.size, i.bytes)) = some (some (.int .i64 0), 1, 8) := by kernel_rfl
theorem inL_one (x : Int) : ∀ v ∈ inL x, v.oneCell' = true := encIn.one x
/-- v is a slice of ints that this call made, and reads as V -/
abbrev OwnI (w : World) (V : List Int) (v : Value) (w' : World) : Prop := w'.ownsRow w.heap.size 3 1 v V.length (flt inL V) ∧ Below w.heap.size w w'
set_option maxRecDepth 100000 in
set_option maxHeartbeats 8000000 in
theorem due_b (A : Option Addr) (l : List Pl.En) (c n : Nat) (hn : l.length = n) (hb : Pl.Vb l) (day aft : Int) (h1 : 0 ≤ day ∧ day ≤ 100000) (h2 : 0 ≤ aft ∧ aft ≤ 1000) (w : World) (hI : Rows enL 4 w A l) :
    Calls Try.prog 68 #[.slice A n c, .int .i64 day, .int .i64 aft] w fun e w' => ∃ v, e = .returned v ∧ OwnI w (Pl.dul l (Pl.srt l) day aft) v w' := by
  have HI := Lib.hid hI
  have HN := Lib.hid hn
  have HB := Lib.hid hb
  have HL : Hid (n ≤ 200) := Lib.hid (by rw [← hn]; exact hb.len)
  have kS : IntKind.i64.wrap (day - aft) = day - aft := IntWalk.i64_in _ (by omega)
  obtain ⟨i0, hi, hz0, hz1, hz2⟩ := info_parts info_int
  clear hI hn hb h1 h2
  go_enter Try.func68, Try.ntmps68
  go_wp2
  go_loopw [7, 12] (fun v i wr => ∃ k : Nat, k ≤ n ∧ i = .int .i64 k ∧ Hid (wr.ownsRow w.heap.size 3 1 v (Pl.dul l (l.take k) day aft).length (flt inL (Pl.dul l (l.take k) day aft))) ∧ Below w.heap.size w wr) (fun _ i _ => n - (intOf i).toNat)
  case atStart => exact ⟨0, Nat.zero_le _, rfl, Lib.hid (World.ownsRow_nil _ _ _ _), Below.refl _ _⟩
  case round =>
    obtain ⟨k, hk, rfl, HO, hW⟩ := hrel
    obtain ⟨wo, rfl⟩ : ∃ wo, wo = wr := ⟨_, rfl⟩
    by_cases hlt : k < n
    · have hltI : (k : Int) < (n : Int) := by omega
      have hn200 : n ≤ 200 := HL.out
      have hkx : k < l.length := by rw [HN.out]; exact hlt
      have hIw := HI.out.below hW
      obtain ⟨bx, ox, rfl, hbx, hcx⟩ := HI.out.open (by omega)
      have hr := row_at hbx hcx hW hkx
      have HST := Lib.hid (Pl.dul_step (l := l) (d := day) (a := aft) hkx)
      have HDL : Hid ((Pl.dul l (l.take k) day aft).length ≤ 200) := Lib.hid (by have := Pl.dul_take l l day aft k; have := HL.out; omega)
      have HSE := Lib.hid (fun q (h : Pl.stl l l[k] day = q) W hb => settled_b _ l c n HN.out HL.out HB.out.each l[k] day q h W (HI.out.below hb))
      clear hcx hIw
      generalize l[k] = y at *
      generalize Pl.dul l (l.take k) day aft = D at *
      have bz := Blk.new wo 24 zA
      have HW := Lib.hid hW
      clear hW
      obtain ⟨q, hq⟩ : ∃ q, Pl.stl l y day = q := ⟨_, rfl⟩
      have HS2 := Lib.hid (HSE.out q hq)
      have HQ := Lib.hid hq
      clear hq HSE
      rcases (show y.k ≠ 1 ∨ (y.k = 1 ∧ ¬ y.d ≤ day - aft) ∨ (y.k = 1 ∧ y.d ≤ day - aft) by omega) with g1 | ⟨g1, g2⟩ | ⟨g1, g2⟩
      · have e1 : (y.k == 1) = false := by simpa using g1
        have HN2 : Hid (Pl.dul l (l.take (k + 1)) day aft = D) := Lib.hid (by rw [HST.out]; unfold Pl.isd; rw [decide_eq_false g1]; simp)
        clear HST g1
        go_wp2_with (first
          | (have h9 := bz
             refine st_en (k := y) bz rfl rfl _ _ rfl rfl rfl ?_
             clear h9
             intro w3 bY hO3
             have hb3 : Below wo.heap.size wo w3 := ((Below.refl wo.heap.size wo).alloc (Nat.le_refl _) (.cells zA 24)).trans (hO3.below (Nat.le_refl _))
             have p0 := bY.cell 0
             have p2 := bY.cell 2
             have HO3 := Lib.hid (own_keep HO.out hb3)
             have HW3 := Lib.hid (HW.out.trans (hb3.mono HW.out.size))
             clear bz hO3 hb3 hr)
          | (have h9 := hr
             refine ldm_en hr rfl _ rfl rfl ?_
             clear h9))
        clear bY p0 p2
        go_roundw
        case rel => exact ⟨k + 1, by omega, by go_num, Lib.hid (by rw [HN2.out]; exact HO3.out), HW3.out⟩
        case measure => simp [intOf]; omega
      · have e1 : (y.k == 1) = true := by simpa using g1
        have HN2 : Hid (Pl.dul l (l.take (k + 1)) day aft = D) := Lib.hid (by rw [HST.out]; unfold Pl.isd; rw [decide_eq_false g2]; simp)
        clear HST g1
        go_wp2_with (first
          | (have h9 := bz
             refine st_en (k := y) bz rfl rfl _ _ rfl rfl rfl ?_
             clear h9
             intro w3 bY hO3
             have hb3 : Below wo.heap.size wo w3 := ((Below.refl wo.heap.size wo).alloc (Nat.le_refl _) (.cells zA 24)).trans (hO3.below (Nat.le_refl _))
             have p0 := bY.cell 0
             have p2 := bY.cell 2
             have HO3 := Lib.hid (own_keep HO.out hb3)
             have HW3 := Lib.hid (HW.out.trans (hb3.mono HW.out.size))
             clear bz hO3 hb3 hr)
          | (have h9 := hr
             refine ldm_en hr rfl _ rfl rfl ?_
             clear h9))
        clear bY p0 p2
        go_roundw
        case rel => exact ⟨k + 1, by omega, by go_num, Lib.hid (by rw [HN2.out]; exact HO3.out), HW3.out⟩
        case measure => simp [intOf]; omega
      · have e1 : (y.k == 1) = true := by simpa using g1
        cases q
        · have HN2 : Hid (Pl.dul l (l.take (k + 1)) day aft = D ++ [y.r]) := Lib.hid (by rw [HST.out]; unfold Pl.isd; rw [decide_eq_true g1, decide_eq_true g2, HQ.out]; rfl)
          clear HST g1
          go_wp2_with (first
            | (have h9 := bz
               refine st_en (k := y) bz rfl rfl _ _ rfl rfl rfl ?_
               clear h9
               intro w3 bY hO3
               have hb3 : Below wo.heap.size wo w3 := ((Below.refl wo.heap.size wo).alloc (Nat.le_refl _) (.cells zA 24)).trans (hO3.below (Nat.le_refl _))
               have p0 := bY.cell 0
               have p2 := bY.cell 2
               have HO3 := Lib.hid (own_keep HO.out hb3)
               have HW3 := Lib.hid (HW.out.trans (hb3.mono HW.out.size))
               have hr7 := bY.range
               clear bz hO3 hb3 hr)
            | (have h9 := hr
               refine ldm_en hr rfl _ rfl rfl ?_
               clear h9)
            | (have h9 := hr7
               refine ldm_en hr7 rfl _ rfl rfl ?_
               clear h9))
          refine (HS2.out w3 HW3.out).mono ?_
          rintro e w4 ⟨rfl, hb4⟩
          have HW4 := Lib.hid (HW3.out.trans (hb4.mono HW3.out.size))
          have HO4 := Lib.hid (own_keep HO3.out hb4)
          have p1 := (bY.below hb4 bY.lt).cell 1
          clear hb4 bY p0 p2 HO3 HW3
          go_wp2_with (at_builtin; go_loud (refine wpList_append_own _ rfl _ _ 42 rfl w.heap.size 3 i0 _ 1 8 Try.underlying42 hi hz0 hz1 hz2 rfl (by decide) _ _ _ rfl (HO4.out.alloc _) ⟨w4.heap.size, 0, none⟩ 1 1 (inL y.r) rfl rfl (new_cells' _ _ _ rfl) (inL_one y.r) (by unfold maxLen; have := HDL.out; omega) (by have := HDL.out; omega) (HW4.out.alloc HW4.out.size _).size ?_; intro v5 w5 hO5 hg5 _))
          have HW5 := Lib.hid ((HW4.out.alloc HW4.out.size (.cells (inL y.r).toArray 3)).grown hg5 (HW4.out.alloc HW4.out.size _).size (fun s h => (HO4.out.lt s h).1))
          have HO5 := Lib.hid hO5
          clear hO5 hg5 p1
          go_roundw
          case rel => exact ⟨k + 1, by omega, by go_num, Lib.hid (by rw [HN2.out, List.length_append, flt_append, flt_one]; exact HO5.out), HW5.out⟩
          case measure => simp [intOf]; omega
        · have HN2 : Hid (Pl.dul l (l.take (k + 1)) day aft = D) := Lib.hid (by rw [HST.out]; unfold Pl.isd; rw [HQ.out]; simp)
          clear HST g1
          go_wp2_with (first
            | (have h9 := bz
               refine st_en (k := y) bz rfl rfl _ _ rfl rfl rfl ?_
               clear h9
               intro w3 bY hO3
               have hb3 : Below wo.heap.size wo w3 := ((Below.refl wo.heap.size wo).alloc (Nat.le_refl _) (.cells zA 24)).trans (hO3.below (Nat.le_refl _))
               have p0 := bY.cell 0
               have p2 := bY.cell 2
               have HO3 := Lib.hid (own_keep HO.out hb3)
               have HW3 := Lib.hid (HW.out.trans (hb3.mono HW.out.size))
               have hr7 := bY.range
               clear bz hO3 hb3 hr)
            | (have h9 := hr
               refine ldm_en hr rfl _ rfl rfl ?_
               clear h9)
            | (have h9 := hr7
               refine ldm_en hr7 rfl _ rfl rfl ?_
               clear h9))
          refine (HS2.out w3 HW3.out).mono ?_
          rintro e w4 ⟨rfl, hb4⟩
          have HW4 := Lib.hid (HW3.out.trans (hb4.mono HW3.out.size))
          have HO4 := Lib.hid (own_keep HO3.out hb4)
          clear hb4 bY p0 p2 HO3 HW3
          go_wp2
          go_roundw
          case rel => exact ⟨k + 1, by omega, by go_num, Lib.hid (by rw [HN2.out]; exact HO4.out), HW4.out⟩
          case measure => simp [intOf]; omega
    · obtain rfl : k = n := by omega
      have HO2 := HO.out
      rw [List.take_of_length_le (by rw [HN.out]; exact Nat.le_refl _)] at HO2
      have HO3 := Lib.hid HO2
      clear HO2
      have HSRT := Lib.hid (Pl.dul_sort HB.out.dif day aft)
      have HLN : Hid ((Pl.dul l l day aft).length ≤ 1000) := Lib.hid (by have := Pl.dul_len l l day aft; rw [HN.out] at this; have := HL.out; omega)
      have HEQ : Hid ((Pl.dul l (Pl.srt l) day aft).length = (Pl.dul l l day aft).length) := Lib.hid (by rw [← HSRT.out, List.length_mergeSort])
      go_wp2_with fail
      refine (sort_ints w.heap.size _ (Pl.dul l l day aft) (Pl.dul l (Pl.srt l) day aft) _ rfl HLN.out HSRT.out _ HO3.out).mono ?_
      rintro e w5 ⟨rfl, hO5, hb5⟩
      have HO5 := Lib.hid hO5
      have HW5 := Lib.hid (hW.trans hb5)
      clear hO5 hb5
      go_wp2
      go_ret
      exact ⟨_, rfl, by rw [HEQ.out]; exact HO5.out, HW5.out⟩
end Go.Proofs.Ytalfffkcmddakaa
