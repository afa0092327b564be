/- The law of sides. -/
import Derived.Test.YtalfffkcmddakaaS4
import Derived.Test.YtalfffkcmddakaaS6
import Derived.Test.YtalfffkcmddakaaE7
import Derived.Test.YtalfffkcmddakaaZ8
namespace Go.Proofs.Ytalfffkcmddakaa
open Go.RowKit Go.Shelf

/-- how many are of another kind than q -/
def Pl.cnt (q : Int) (L : List Pl.Df) : Nat := (L.filter fun d => decide (d.k ≠ q)).length
theorem Pl.cnt_take {q : Int} {L : List Pl.Df} {k : Nat} (hk : k < L.length) : Pl.cnt q (L.take (k + 1)) = if L[k].k ≠ q then Pl.cnt q (L.take k) + 1 else Pl.cnt q (L.take k) := by
  unfold Pl.cnt
  rw [List.take_succ_eq_append_getElem hk, List.filter_append, List.length_append]
  by_cases h : L[k].k ≠ q
  · rw [if_pos h, List.filter_cons_of_pos (by simpa using h)]; rfl
  · rw [if_neg h, List.filter_cons_of_neg (by simpa using h)]; rfl
theorem Pl.cnt_le (q : Int) (L : List Pl.Df) (k : Nat) : Pl.cnt q (L.take k) ≤ k := by
  unfold Pl.cnt
  have := List.length_filter_le (fun d : Pl.Df => decide (d.k ≠ q)) (L.take k)
  rw [List.length_take] at this
  omega
theorem rows_ownD {W : World} {base : Nat} {v : Value} {xs : List Pl.Df} {n : Nat} (hn : xs.length = n) (h : W.ownsRow base 61 9 v n (flt dfL xs)) : ∃ A c, v = .slice A n c ∧ Rows dfL 9 W A xs := by
  subst hn
  obtain ⟨A, c, e, h1, _, _⟩ := rows_of_owns encDf h
  exact ⟨A, c, e, h1⟩
set_option maxRecDepth 100000 in
set_option maxHeartbeats 32000000 in
theorem law_sides (A1 A2 : Option Addr) (a b : List Pl.En) (n1 c1 n2 c2 : Nat) (hn1 : a.length = n1) (hn2 : b.length = n2) (w : World) (hc1 : n1 ≤ c1) (hc2 : n2 ≤ c2) (ht1 : c1 ≤ maxLen) (ht2 : c2 ≤ maxLen) (hx1 : A1 = none → c1 = 0) (hx2 : A2 = none → c2 = 0) (hI1 : Rows enL 4 w A1 a) (hI2 : Rows enL 4 w A2 b) :
    Calls Try.prog 10 #[.slice A1 n1 c1, .slice A2 n2 c2] w fun e w' => e = .returned (.bool true) ∧ Below w.heap.size w w' := by
  have hm1 : n1 ≤ maxLen := Nat.le_trans hc1 ht1
  have hm2 : n2 ≤ maxLen := Nat.le_trans hc2 ht2
  have H1 := Lib.hid (fun W (h : Below w.heap.size w W) => compare2_b A1 A2 a b n1 c1 n2 c2 hn1 hn2 hm1 hm2 hx1 hx2 W (hI1.below h) (hI2.below h))
  have H2 := Lib.hid (fun W (h : Below w.heap.size w W) => compare2_b A2 A1 b a n2 c2 n1 c1 hn2 hn1 hm2 hm1 hx2 hx1 W (hI2.below h) (hI1.below h))
  have H3 := Lib.hid (fun W (h : Below w.heap.size w W) => compare2_b A1 A1 a a n1 c1 n1 c1 hn1 hn1 hm1 hm1 hx1 hx1 W (hI1.below h) (hI1.below h))
  have H4 := Lib.hid (fun W (h : Below w.heap.size w W) => sorted2_any A1 a c1 n1 hn1 hm1 W (hI1.below h))
  have H5 := Lib.hid (fun W (h : Below w.heap.size w W) => sorted2_any A2 b c2 n2 hn2 hm2 W (hI2.below h))
  have H6 := Lib.hid (fun W (h : Below w.heap.size w W) => agreed2_b A1 A2 a b n1 c1 n2 c2 hn1 hn2 hm1 hm2 hx1 hx2 W (hI1.below h) (hI2.below h))
  have HB0 := Lib.hid (Below.refl w.heap.size w)
  by_cases hco : Pl.coE a b = 0
  case neg =>
    have e1 : Pl.coV a b = [] := by unfold Pl.coV; rw [if_neg hco]
    have e2 : Pl.coV b a = [] := by unfold Pl.coV; rw [← Pl.co_swap, if_neg hco]
    rw [e1] at H1
    rw [e2, ← Pl.co_swap] at H2
    obtain ⟨q, hq⟩ : ∃ q, Pl.coE a b = q := ⟨_, rfl⟩
    rw [hq] at H1 H2 hco
    have n1' : (q != q) = false := by simp
    have n2' : (q != 0) = true := by simp [hco]
    clear e1 e2 hq hco H3 H4 H5 H6 hI1 hI2 hx1 hx2 ht1 ht2 hc1 hc2 hn1 hn2 hm1 hm2
    go_enter Try.func10, Try.ntmps10
    go_wp2_with fail
    refine (H1.out _ HB0.out).mono ?_
    rintro e w1 ⟨v1, rfl, hO1, hb1⟩
    obtain ⟨A3, c3, rfl, _⟩ := rows_ownD (n := 0) rfl hO1
    clear hO1
    go_wp2_with fail
    refine (H2.out _ hb1).mono ?_
    rintro e w2 ⟨v2, rfl, hO2, hb2⟩
    obtain ⟨A4, c4, rfl, _⟩ := rows_ownD (n := 0) rfl hO2
    have HB2 := Lib.hid (hb1.trans (hb2.mono hb1.size))
    clear hO2 hb1 hb2
    go_wp2_with fail
    refine (awake_any w2).mono ?_
    rintro e w9 ⟨rfl, hb9⟩
    have HB9 := Lib.hid (HB2.out.trans (hb9.mono HB2.out.size))
    clear hb9
    go_wp2
    go_ret
    exact ⟨rfl, HB9.out⟩
  case pos =>
  obtain ⟨hva, hvb⟩ := Pl.co_ok.1 hco
  have ha := Pl.vb_iff.1 hva
  have hb := Pl.vb_iff.1 hvb
  obtain ⟨X, hX⟩ : ∃ X, Pl.dif a b = X := ⟨_, rfl⟩
  have e1 : Pl.coV a b = X := by unfold Pl.coV; rw [if_pos hco, hX]
  have e2 : Pl.coV b a = X.map Pl.swp := by unfold Pl.coV; rw [← Pl.co_swap, if_pos hco, Pl.dif_swap ha hb, hX]
  have e3 : Pl.coE a a = 0 := Pl.co_ok.2 ⟨hva, hva⟩
  have e4 : Pl.coV a a = [] := by unfold Pl.coV; rw [if_pos e3, Pl.dif_self]
  have e5 : Pl.soE a = 0 ∧ Pl.soV a = Pl.srt a := by unfold Pl.soE Pl.soV; rw [hva]; exact ⟨rfl, rfl⟩
  have e6 : Pl.soE b = 0 ∧ Pl.soV b = Pl.srt b := by unfold Pl.soE Pl.soV; rw [hvb]; exact ⟨rfl, rfl⟩
  have e7 : Pl.agV a b = Pl.agr a b := by unfold Pl.agV; rw [if_pos hco]
  rw [e1, hco] at H1
  rw [e2, ← Pl.co_swap, hco] at H2
  rw [e3, e4] at H3
  rw [e5.1, e5.2] at H4
  rw [e6.1, e6.2] at H5
  rw [e7, hco] at H6
  obtain ⟨m, hm⟩ : ∃ m, X.length = m := ⟨_, rfl⟩
  obtain ⟨p, hp⟩ : ∃ p, (Pl.agr a b).length = p := ⟨_, rfl⟩
  have hl1 : n1 ≤ 200 := by rw [← hn1]; exact ha.len
  have hl2 : n2 ≤ 200 := by rw [← hn2]; exact hb.len
  have hm400 : m ≤ 400 := by have := Pl.dif_len a b; rw [hX, hm, hn1, hn2] at this; omega
  have hp200 : p ≤ 200 := by have := Pl.agr_len a b; rw [hp, hn1] at this; omega
  have HM := Lib.hid hm
  have HP := Lib.hid hp
  have HKD : Hid (∀ d, d ∈ X → d.k = 1 ∨ d.k = 2 ∨ d.k = 3) := Lib.hid (fun d hd => by have := Pl.dif_all ha hb (by rw [hX]; exact hd); omega)
  have HEQ : Hid (decide (Pl.srt a = Pl.srt b) = decide (m = 0)) := Lib.hid (by
    have h1 := Pl.dif_nil ha hb
    rw [hX] at h1
    rw [decide_eq_decide, ← h1, ← hm]
    exact ⟨fun h => by rw [h]; rfl, List.eq_nil_of_length_eq_zero⟩)
  have HMI : Hid (p + Pl.cnt 2 X = n1) := Lib.hid (by rw [← hp, ← hn1, ← hX]; exact Pl.dif_mine ha hb)
  have HTH : Hid (p + Pl.cnt 1 X = n2) := Lib.hid (by rw [← hp, ← hn2, ← hX]; exact Pl.dif_theirs ha hb)
  have HS1 : Hid ((Pl.srt a).length = n1) := Lib.hid (by rw [Pl.srt_len, hn1])
  have HS2 : Hid ((Pl.srt b).length = n2) := Lib.hid (by rw [Pl.srt_len, hn2])
  clear e1 e2 e3 e4 e5 e6 e7 hX ha hb hva hvb hco hI1 hI2 hx1 hx2 ht1 ht2 hc1 hc2 hn1 hn2 hm1 hm2 hm hp
  generalize Pl.agr a b = G at *
  go_enter Try.func10, Try.ntmps10
  go_wp2_with fail
  refine (H1.out _ HB0.out).mono ?_
  rintro e w1 ⟨v1, rfl, hO1, hb1⟩
  rw [HM.out] at hO1
  obtain ⟨Ax, cx, rfl, hRx⟩ := rows_ownD HM.out hO1
  have HRx := Lib.hid hRx
  clear hO1 hRx H1 HB0
  go_wp2_with fail
  refine (H2.out _ hb1).mono ?_
  rintro e w2 ⟨v2, rfl, hO2, hb2⟩
  rw [List.length_map, HM.out] at hO2
  obtain ⟨Ay, cy, rfl, hRy⟩ := rows_ownD (by rw [List.length_map, HM.out]) hO2
  have HB2 := Lib.hid (hb1.trans (hb2.mono hb1.size))
  have HX := Lib.hid (HRx.out.below hb2)
  have HY := Lib.hid hRy
  clear hO2 hb1 hb2 hRy HRx H2
  go_wp2
  go_loopw [9, 49] (fun _ i wr => ∃ k : Nat, k ≤ m ∧ i = .int .i64 k ∧ Below w2.heap.size w2 wr) (fun _ i _ => m - (intOf i).toNat)
  case atStart => exact ⟨0, Nat.zero_le _, rfl, Below.refl _ _⟩
  case round =>
    obtain ⟨k, hk, rfl, hW⟩ := hrel
    obtain ⟨wo, rfl⟩ : ∃ wo, wo = wr := ⟨_, rfl⟩
    by_cases hlt : k < m
    · have hltI : (k : Int) < (m : Int) := by omega
      have hkx : k < X.length := by rw [HM.out]; exact hlt
      have hky : k < (X.map Pl.swp).length := by rw [List.length_map]; exact hkx
      obtain ⟨bx, ox, rfl, hbx, hcx⟩ := HX.out.open (by omega)
      obtain ⟨by', oy, rfl, hby, hcy⟩ := HY.out.open (by omega)
      have hr := row_at hbx hcx hW hkx
      have hry := row_at hby hcy hW hky
      rw [List.getElem_map] at hry
      have hbY : by' < wo.heap.size := Nat.lt_of_lt_of_le hby hW.size
      have HK3 := HKD.out _ (List.getElem_mem hkx)
      clear hcx hcy
      generalize X[k] = d at *
      obtain ⟨dk, M, T⟩ := d
      have bz := Blk.new wo 61 zdf
      have HBz := Lib.hid ((Below.refl wo.heap.size wo).alloc (Nat.le_refl _) (.cells zdf 61))
      have HW := Lib.hid hW
      simp only [] at HK3
      clear hW hkx hky
      rcases HK3 with rfl | rfl | rfl
      · have hry2 : wo.rangeAt by' (oy + k * 9) (dfL ⟨2, T, M⟩) := hry
        have HRY := Lib.hid hry2
        clear hry hry2
        go_wp2_with (first
          | (have h9 := bz
             refine st_df (k := ⟨1, M, T⟩) bz rfl rfl _ _ rfl rfl rfl ?_
             clear h9
             intro w7 bY hO7
             have hb7 : Below wo.heap.size wo w7 := HBz.out.trans (hO7.below (Nat.le_refl _))
             have bY' := (bY.alloc (.cells #[.int .i64 0, .int .i64 2, .int .i64 1, .int .i64 3] 62))
             have HD7 := Lib.hid bY'.range
             have HDL := Lib.hid bY'.lt
             have bT := Blk.new w7 62 #[.int .i64 0, .int .i64 2, .int .i64 1, .int .i64 3]
             have HTC := Lib.hid (bT.cell 1)
             have HTL := Lib.hid bT.lt
             have hba := (Below.refl w7.heap.size w7).alloc (Nat.le_refl _) (.cells #[.int .i64 0, .int .i64 2, .int .i64 1, .int .i64 3] 62)
             have HY7 := Lib.hid (rangeAt_below (rangeAt_below HRY.out hbY hb7) (Nat.lt_of_lt_of_le hbY hb7.size) hba)
             have HYL := Lib.hid (Nat.lt_of_lt_of_le (Nat.lt_of_lt_of_le hbY hb7.size) hba.size)
             have HW7 := Lib.hid ((HW.out.trans (hb7.mono HW.out.size)).trans (hba.mono (Nat.le_trans HW.out.size hb7.size)))
             clear bz hO7 hb7 bY bY' bT hba hr)
          | (have h9 := hr
             refine ldm_df hr rfl _ rfl rfl ?_
             clear h9))
        generalize hWE : w7.alloc (.cells #[.int .i64 0, .int .i64 2, .int .i64 1, .int .i64 3] 62) = W at *
        clear hWE
        generalize w7.heap.size = gt at *
        generalize wo.heap.size = gd at *
        have a0 := fun s : Ext W => (df_cells (d := ⟨1, M, T⟩) (ext_range s HD7.out HDL.out)).c0
        have a1 := fun s : Ext W => (df_cells (d := ⟨1, M, T⟩) (ext_range s HD7.out HDL.out)).c1
        have a2 := fun s : Ext W => (df_cells (d := ⟨1, M, T⟩) (ext_range s HD7.out HDL.out)).c2
        have a3 := fun s : Ext W => (df_cells (d := ⟨1, M, T⟩) (ext_range s HD7.out HDL.out)).c3
        have a4 := fun s : Ext W => (df_cells (d := ⟨1, M, T⟩) (ext_range s HD7.out HDL.out)).c4
        have a5 := fun s : Ext W => (df_cells (d := ⟨1, M, T⟩) (ext_range s HD7.out HDL.out)).c5
        have a6 := fun s : Ext W => (df_cells (d := ⟨1, M, T⟩) (ext_range s HD7.out HDL.out)).c6
        have a7 := fun s : Ext W => (df_cells (d := ⟨1, M, T⟩) (ext_range s HD7.out HDL.out)).c7
        have a8 := fun s : Ext W => (df_cells (d := ⟨1, M, T⟩) (ext_range s HD7.out HDL.out)).c8
        have b0 := fun s : Ext W => (df_cells (d := ⟨2, T, M⟩) (ext_range s HY7.out HYL.out)).c0
        have b1 := fun s : Ext W => (df_cells (d := ⟨2, T, M⟩) (ext_range s HY7.out HYL.out)).c1
        have b2 := fun s : Ext W => (df_cells (d := ⟨2, T, M⟩) (ext_range s HY7.out HYL.out)).c2
        have b3 := fun s : Ext W => (df_cells (d := ⟨2, T, M⟩) (ext_range s HY7.out HYL.out)).c3
        have b4 := fun s : Ext W => (df_cells (d := ⟨2, T, M⟩) (ext_range s HY7.out HYL.out)).c4
        have b5 := fun s : Ext W => (df_cells (d := ⟨2, T, M⟩) (ext_range s HY7.out HYL.out)).c5
        have b6 := fun s : Ext W => (df_cells (d := ⟨2, T, M⟩) (ext_range s HY7.out HYL.out)).c6
        have b7 := fun s : Ext W => (df_cells (d := ⟨2, T, M⟩) (ext_range s HY7.out HYL.out)).c7
        have b8 := fun s : Ext W => (df_cells (d := ⟨2, T, M⟩) (ext_range s HY7.out HYL.out)).c8
        have tt := fun s : Ext W => s.cell HTC.out
        have heq := fun w => run_eqDf ⟨2, T, M⟩ w
        simp only [Nat.zero_add] at a0 a1 a2 a3 a4 a5 a6 a7 a8 tt
        refine wp_region_ext (by kernel_rfl) (by kernel_rfl) ?_
        repeat (go_big_quiet_step (fail))
        refine wpQuiet_nil ?_
        rintro _ ⟨s, rfl⟩
        clear a0 a1 a2 a3 a4 a5 a6 a7 a8 b0 b1 b2 b3 b4 b5 b6 b7 b8 tt heq
        go_wp2
        go_roundw
        case rel => exact ⟨k + 1, by omega, by go_num, HW7.out.trans (s.h.mono HW7.out.size)⟩
        case measure => simp [intOf]; omega
      · have hry2 : wo.rangeAt by' (oy + k * 9) (dfL ⟨1, T, M⟩) := hry
        have HRY := Lib.hid hry2
        clear hry hry2
        go_wp2_with (first
          | (have h9 := bz
             refine st_df (k := ⟨2, M, T⟩) bz rfl rfl _ _ rfl rfl rfl ?_
             clear h9
             intro w7 bY hO7
             have hb7 : Below wo.heap.size wo w7 := HBz.out.trans (hO7.below (Nat.le_refl _))
             have bY' := (bY.alloc (.cells #[.int .i64 0, .int .i64 2, .int .i64 1, .int .i64 3] 62))
             have HD7 := Lib.hid bY'.range
             have HDL := Lib.hid bY'.lt
             have bT := Blk.new w7 62 #[.int .i64 0, .int .i64 2, .int .i64 1, .int .i64 3]
             have HTC := Lib.hid (bT.cell 2)
             have HTL := Lib.hid bT.lt
             have hba := (Below.refl w7.heap.size w7).alloc (Nat.le_refl _) (.cells #[.int .i64 0, .int .i64 2, .int .i64 1, .int .i64 3] 62)
             have HY7 := Lib.hid (rangeAt_below (rangeAt_below HRY.out hbY hb7) (Nat.lt_of_lt_of_le hbY hb7.size) hba)
             have HYL := Lib.hid (Nat.lt_of_lt_of_le (Nat.lt_of_lt_of_le hbY hb7.size) hba.size)
             have HW7 := Lib.hid ((HW.out.trans (hb7.mono HW.out.size)).trans (hba.mono (Nat.le_trans HW.out.size hb7.size)))
             clear bz hO7 hb7 bY bY' bT hba hr)
          | (have h9 := hr
             refine ldm_df hr rfl _ rfl rfl ?_
             clear h9))
        generalize hWE : w7.alloc (.cells #[.int .i64 0, .int .i64 2, .int .i64 1, .int .i64 3] 62) = W at *
        clear hWE
        generalize w7.heap.size = gt at *
        generalize wo.heap.size = gd at *
        have a0 := fun s : Ext W => (df_cells (d := ⟨2, M, T⟩) (ext_range s HD7.out HDL.out)).c0
        have a1 := fun s : Ext W => (df_cells (d := ⟨2, M, T⟩) (ext_range s HD7.out HDL.out)).c1
        have a2 := fun s : Ext W => (df_cells (d := ⟨2, M, T⟩) (ext_range s HD7.out HDL.out)).c2
        have a3 := fun s : Ext W => (df_cells (d := ⟨2, M, T⟩) (ext_range s HD7.out HDL.out)).c3
        have a4 := fun s : Ext W => (df_cells (d := ⟨2, M, T⟩) (ext_range s HD7.out HDL.out)).c4
        have a5 := fun s : Ext W => (df_cells (d := ⟨2, M, T⟩) (ext_range s HD7.out HDL.out)).c5
        have a6 := fun s : Ext W => (df_cells (d := ⟨2, M, T⟩) (ext_range s HD7.out HDL.out)).c6
        have a7 := fun s : Ext W => (df_cells (d := ⟨2, M, T⟩) (ext_range s HD7.out HDL.out)).c7
        have a8 := fun s : Ext W => (df_cells (d := ⟨2, M, T⟩) (ext_range s HD7.out HDL.out)).c8
        have b0 := fun s : Ext W => (df_cells (d := ⟨1, T, M⟩) (ext_range s HY7.out HYL.out)).c0
        have b1 := fun s : Ext W => (df_cells (d := ⟨1, T, M⟩) (ext_range s HY7.out HYL.out)).c1
        have b2 := fun s : Ext W => (df_cells (d := ⟨1, T, M⟩) (ext_range s HY7.out HYL.out)).c2
        have b3 := fun s : Ext W => (df_cells (d := ⟨1, T, M⟩) (ext_range s HY7.out HYL.out)).c3
        have b4 := fun s : Ext W => (df_cells (d := ⟨1, T, M⟩) (ext_range s HY7.out HYL.out)).c4
        have b5 := fun s : Ext W => (df_cells (d := ⟨1, T, M⟩) (ext_range s HY7.out HYL.out)).c5
        have b6 := fun s : Ext W => (df_cells (d := ⟨1, T, M⟩) (ext_range s HY7.out HYL.out)).c6
        have b7 := fun s : Ext W => (df_cells (d := ⟨1, T, M⟩) (ext_range s HY7.out HYL.out)).c7
        have b8 := fun s : Ext W => (df_cells (d := ⟨1, T, M⟩) (ext_range s HY7.out HYL.out)).c8
        have tt := fun s : Ext W => s.cell HTC.out
        have heq := fun w => run_eqDf ⟨1, T, M⟩ w
        simp only [Nat.zero_add] at a0 a1 a2 a3 a4 a5 a6 a7 a8 tt
        refine wp_region_ext (by kernel_rfl) (by kernel_rfl) ?_
        repeat (go_big_quiet_step (fail))
        refine wpQuiet_nil ?_
        rintro _ ⟨s, rfl⟩
        clear a0 a1 a2 a3 a4 a5 a6 a7 a8 b0 b1 b2 b3 b4 b5 b6 b7 b8 tt heq
        go_wp2
        go_roundw
        case rel => exact ⟨k + 1, by omega, by go_num, HW7.out.trans (s.h.mono HW7.out.size)⟩
        case measure => simp [intOf]; omega
      · have hry2 : wo.rangeAt by' (oy + k * 9) (dfL ⟨3, T, M⟩) := hry
        have HRY := Lib.hid hry2
        clear hry hry2
        go_wp2_with (first
          | (have h9 := bz
             refine st_df (k := ⟨3, M, T⟩) bz rfl rfl _ _ rfl rfl rfl ?_
             clear h9
             intro w7 bY hO7
             have hb7 : Below wo.heap.size wo w7 := HBz.out.trans (hO7.below (Nat.le_refl _))
             have bY' := (bY.alloc (.cells #[.int .i64 0, .int .i64 2, .int .i64 1, .int .i64 3] 62))
             have HD7 := Lib.hid bY'.range
             have HDL := Lib.hid bY'.lt
             have bT := Blk.new w7 62 #[.int .i64 0, .int .i64 2, .int .i64 1, .int .i64 3]
             have HTC := Lib.hid (bT.cell 3)
             have HTL := Lib.hid bT.lt
             have hba := (Below.refl w7.heap.size w7).alloc (Nat.le_refl _) (.cells #[.int .i64 0, .int .i64 2, .int .i64 1, .int .i64 3] 62)
             have HY7 := Lib.hid (rangeAt_below (rangeAt_below HRY.out hbY hb7) (Nat.lt_of_lt_of_le hbY hb7.size) hba)
             have HYL := Lib.hid (Nat.lt_of_lt_of_le (Nat.lt_of_lt_of_le hbY hb7.size) hba.size)
             have HW7 := Lib.hid ((HW.out.trans (hb7.mono HW.out.size)).trans (hba.mono (Nat.le_trans HW.out.size hb7.size)))
             clear bz hO7 hb7 bY bY' bT hba hr)
          | (have h9 := hr
             refine ldm_df hr rfl _ rfl rfl ?_
             clear h9))
        generalize hWE : w7.alloc (.cells #[.int .i64 0, .int .i64 2, .int .i64 1, .int .i64 3] 62) = W at *
        clear hWE
        generalize w7.heap.size = gt at *
        generalize wo.heap.size = gd at *
        have a0 := fun s : Ext W => (df_cells (d := ⟨3, M, T⟩) (ext_range s HD7.out HDL.out)).c0
        have a1 := fun s : Ext W => (df_cells (d := ⟨3, M, T⟩) (ext_range s HD7.out HDL.out)).c1
        have a2 := fun s : Ext W => (df_cells (d := ⟨3, M, T⟩) (ext_range s HD7.out HDL.out)).c2
        have a3 := fun s : Ext W => (df_cells (d := ⟨3, M, T⟩) (ext_range s HD7.out HDL.out)).c3
        have a4 := fun s : Ext W => (df_cells (d := ⟨3, M, T⟩) (ext_range s HD7.out HDL.out)).c4
        have a5 := fun s : Ext W => (df_cells (d := ⟨3, M, T⟩) (ext_range s HD7.out HDL.out)).c5
        have a6 := fun s : Ext W => (df_cells (d := ⟨3, M, T⟩) (ext_range s HD7.out HDL.out)).c6
        have a7 := fun s : Ext W => (df_cells (d := ⟨3, M, T⟩) (ext_range s HD7.out HDL.out)).c7
        have a8 := fun s : Ext W => (df_cells (d := ⟨3, M, T⟩) (ext_range s HD7.out HDL.out)).c8
        have b0 := fun s : Ext W => (df_cells (d := ⟨3, T, M⟩) (ext_range s HY7.out HYL.out)).c0
        have b1 := fun s : Ext W => (df_cells (d := ⟨3, T, M⟩) (ext_range s HY7.out HYL.out)).c1
        have b2 := fun s : Ext W => (df_cells (d := ⟨3, T, M⟩) (ext_range s HY7.out HYL.out)).c2
        have b3 := fun s : Ext W => (df_cells (d := ⟨3, T, M⟩) (ext_range s HY7.out HYL.out)).c3
        have b4 := fun s : Ext W => (df_cells (d := ⟨3, T, M⟩) (ext_range s HY7.out HYL.out)).c4
        have b5 := fun s : Ext W => (df_cells (d := ⟨3, T, M⟩) (ext_range s HY7.out HYL.out)).c5
        have b6 := fun s : Ext W => (df_cells (d := ⟨3, T, M⟩) (ext_range s HY7.out HYL.out)).c6
        have b7 := fun s : Ext W => (df_cells (d := ⟨3, T, M⟩) (ext_range s HY7.out HYL.out)).c7
        have b8 := fun s : Ext W => (df_cells (d := ⟨3, T, M⟩) (ext_range s HY7.out HYL.out)).c8
        have tt := fun s : Ext W => s.cell HTC.out
        have heq := fun w => run_eqDf ⟨3, T, M⟩ w
        simp only [Nat.zero_add] at a0 a1 a2 a3 a4 a5 a6 a7 a8 tt
        refine wp_region_ext (by kernel_rfl) (by kernel_rfl) ?_
        repeat (go_big_quiet_step (fail))
        refine wpQuiet_nil ?_
        rintro _ ⟨s, rfl⟩
        clear a0 a1 a2 a3 a4 a5 a6 a7 a8 b0 b1 b2 b3 b4 b5 b6 b7 b8 tt heq
        go_wp2
        go_roundw
        case rel => exact ⟨k + 1, by omega, by go_num, HW7.out.trans (s.h.mono HW7.out.size)⟩
        case measure => simp [intOf]; omega
    · obtain rfl : k = m := by omega
      have HB3 := Lib.hid (HB2.out.trans (hW.mono HB2.out.size))
      have HX3 := Lib.hid (HX.out.below hW)
      clear hW HX HY HB2 HKD
      go_wp2_with fail
      refine (H3.out _ HB3.out).mono ?_
      rintro e w4 ⟨v4, rfl, hO4, hb4⟩
      obtain ⟨A4, c4, rfl, _⟩ := rows_ownD (n := 0) rfl hO4
      have HB4 := Lib.hid (HB3.out.trans (hb4.mono HB3.out.size))
      have HX4 := Lib.hid (HX3.out.below hb4)
      clear hO4 hb4 HB3 HX3 H3
      go_wp2_with fail
      refine (H4.out _ HB4.out).mono ?_
      rintro e w5 ⟨v5, rfl, hO5, hb5⟩
      rw [HS1.out] at hO5
      obtain ⟨A5, c5, rfl, hR5, _, _, _⟩ := rows_own2 HS1.out hO5
      have HB5 := Lib.hid (HB4.out.trans (hb5.mono HB4.out.size))
      have HX5 := Lib.hid (HX4.out.below hb5)
      have HR5 := Lib.hid hR5
      clear hO5 hb5 HB4 HX4 H4 hR5
      go_wp2_with fail
      refine (H5.out _ HB5.out).mono ?_
      rintro e w6 ⟨v6, rfl, hO6, hb6⟩
      rw [HS2.out] at hO6
      obtain ⟨A6, c6, rfl, hR6, _, _, _⟩ := rows_own2 HS2.out hO6
      have HB6 := Lib.hid (HB5.out.trans (hb6.mono HB5.out.size))
      have HX6 := Lib.hid (HX5.out.below hb6)
      have HR5' := Lib.hid (HR5.out.below hb6)
      have HR6 := Lib.hid hR6
      clear hO6 hb6 HB5 HX5 H5 hR6 HR5
      obtain ⟨u, hu⟩ : ∃ u, decide (k = 0) = u := ⟨_, rfl⟩
      have HSM := Lib.hid (same_b A5 A6 (Pl.srt a) (Pl.srt b) c5 c6 n1 n2 HS1.out HS2.out (by omega) (by omega) u (HEQ.out.trans hu) w6 HR5'.out HR6.out)
      have hku : ((k : Int) == 0) = u := by
        rw [← hu]
        by_cases h : k = 0
        · simp [h]
        · simp [h]
      have huu : (u != u) = false := by simp
      clear hu HR5' HR6 HEQ
      have z0 : ((([] : List Pl.Df).length : Int) != 0) = false := rfl
      go_wp2_with fail
      refine HSM.out.mono ?_
      rintro e w7 ⟨rfl, hb7⟩
      have HB7 := Lib.hid (HB6.out.trans (hb7.mono HB6.out.size))
      have HX7 := Lib.hid (HX6.out.below hb7)
      clear hb7 HB6 HX6 HSM
      go_wp2_with fail
      refine (H6.out _ HB7.out).mono ?_
      rintro e w8 ⟨v8, rfl, hO8, hb8⟩
      rw [HP.out] at hO8
      obtain ⟨A8, c8, rfl, _⟩ := rows_own2 HP.out hO8
      have HB8 := Lib.hid (HB7.out.trans (hb8.mono HB7.out.size))
      have HX8 := Lib.hid (HX7.out.below hb8)
      clear hO8 hb8 HB7 HX7 H6 hku huu z0
      go_wp2
      go_loopw [18, 19, 132] (fun s t i wr => ∃ j : Nat, j ≤ k ∧ i = .int .i64 j ∧ s = .int .i64 ((p + Pl.cnt 2 (X.take j) : Nat) : Int) ∧ t = .int .i64 ((p + Pl.cnt 1 (X.take j) : Nat) : Int) ∧ Below w8.heap.size w8 wr) (fun _ _ i _ => k - (intOf i).toNat)
      case atStart => exact ⟨0, Nat.zero_le _, rfl, by simp [Pl.cnt], by simp [Pl.cnt], Below.refl _ _⟩
      case round =>
        obtain ⟨j, hj, rfl, rfl, rfl, hV⟩ := hrel
        obtain ⟨wi, rfl⟩ : ∃ wi, wi = wr := ⟨_, rfl⟩
        by_cases hlt2 : j < k
        · have hltI2 : (j : Int) < (k : Int) := by omega
          have hjx : j < X.length := by rw [HM.out]; exact hlt2
          obtain ⟨bx, ox, rfl, hbx, hcx⟩ := HX8.out.open (by omega)
          have hr := row_at hbx hcx hV hjx
          have HC2 := Lib.hid (Pl.cnt_take (q := 2) hjx)
          have HC1 := Lib.hid (Pl.cnt_take (q := 1) hjx)
          have hle2 := Pl.cnt_le 2 X j
          have hle1 := Pl.cnt_le 1 X j
          clear hcx
          generalize X[j] = d at *
          generalize Pl.cnt 2 (X.take j) = t2 at *
          generalize Pl.cnt 1 (X.take j) = t1 at *
          have bz := Blk.new wi 61 zdf
          have HBz := Lib.hid ((Below.refl wi.heap.size wi).alloc (Nat.le_refl _) (.cells zdf 61))
          have HV := Lib.hid hV
          clear hV hjx
          obtain ⟨p2, hp2⟩ : ∃ q, p + t2 = q := ⟨_, rfl⟩
          obtain ⟨p1, hp1⟩ : ∃ q, p + t1 = q := ⟨_, rfl⟩
          have hq2 : p2 ≤ 1000 := by omega
          have hq1 : p1 ≤ 1000 := by omega
          rw [hp2, hp1]
          have HP2 := Lib.hid hp2
          have HP1 := Lib.hid hp1
          clear hp2 hp1 hle2 hle1
          rcases (show (d.k ≠ 2 ∧ d.k ≠ 1) ∨ (d.k ≠ 2 ∧ d.k = 1) ∨ (d.k = 2 ∧ d.k ≠ 1) by omega) with ⟨g2, g1⟩ | ⟨g2, g1⟩ | ⟨g2, g1⟩
          · have e2 : (d.k != 2) = true := by simpa using g2
            have e1 : (d.k != 1) = true := by simpa using g1
            have HQ2 : Hid (((p + Pl.cnt 2 (X.take (j + 1)) : Nat) : Int) = (p2 : Int) + 1) := Lib.hid (by rw [HC2.out, if_pos g2]; have := HP2.out; omega)
            have HQ1 : Hid (((p + Pl.cnt 1 (X.take (j + 1)) : Nat) : Int) = (p1 : Int) + 1) := Lib.hid (by rw [HC1.out, if_pos g1]; have := HP1.out; omega)
            clear g2 g1 HC2 HC1
            have k2 : IntKind.i64.wrap ((p2 : Int) + 1) = (p2 : Int) + 1 := IntWalk.i64_in _ (by omega)
            have k1 : IntKind.i64.wrap ((p1 : Int) + 1) = (p1 : Int) + 1 := IntWalk.i64_in _ (by omega)
            go_wp2_with (first
              | (have h9 := bz
                 refine st_df (k := d) bz rfl rfl _ _ rfl rfl rfl ?_
                 clear h9
                 intro w9 bY hO9
                 have hb9 : Below wi.heap.size wi w9 := HBz.out.trans (hO9.below (Nat.le_refl _))
                 have q0 := bY.cell 0
                 have HV9 := Lib.hid (HV.out.trans (hb9.mono HV.out.size))
                 clear bz hO9 hb9 bY hr)
              | (have h9 := hr
                 refine ldm_df hr rfl _ rfl rfl ?_
                 clear h9))
            clear q0
            go_roundw
            case rel => exact ⟨j + 1, by omega, by go_num, by rw [HQ2.out], by rw [HQ1.out], HV9.out⟩
            case measure => simp [intOf]; omega
          · have e2 : (d.k != 2) = true := by simpa using g2
            have e1 : (d.k != 1) = false := by simp [g1]
            have HQ2 : Hid (((p + Pl.cnt 2 (X.take (j + 1)) : Nat) : Int) = (p2 : Int) + 1) := Lib.hid (by rw [HC2.out, if_pos g2]; have := HP2.out; omega)
            have HQ1 : Hid (((p + Pl.cnt 1 (X.take (j + 1)) : Nat) : Int) = (p1 : Int)) := Lib.hid (by rw [HC1.out, if_neg (fun h => h g1)]; have := HP1.out; omega)
            clear g2 g1 HC2 HC1
            have k2 : IntKind.i64.wrap ((p2 : Int) + 1) = (p2 : Int) + 1 := IntWalk.i64_in _ (by omega)
            have k1 : IntKind.i64.wrap ((p1 : Int) + 1) = (p1 : Int) + 1 := IntWalk.i64_in _ (by omega)
            go_wp2_with (first
              | (have h9 := bz
                 refine st_df (k := d) bz rfl rfl _ _ rfl rfl rfl ?_
                 clear h9
                 intro w9 bY hO9
                 have hb9 : Below wi.heap.size wi w9 := HBz.out.trans (hO9.below (Nat.le_refl _))
                 have q0 := bY.cell 0
                 have HV9 := Lib.hid (HV.out.trans (hb9.mono HV.out.size))
                 clear bz hO9 hb9 bY hr)
              | (have h9 := hr
                 refine ldm_df hr rfl _ rfl rfl ?_
                 clear h9))
            clear q0
            go_roundw
            case rel => exact ⟨j + 1, by omega, by go_num, by rw [HQ2.out], by rw [HQ1.out], HV9.out⟩
            case measure => simp [intOf]; omega
          · have e2 : (d.k != 2) = false := by simp [g2]
            have e1 : (d.k != 1) = true := by simpa using g1
            have HQ2 : Hid (((p + Pl.cnt 2 (X.take (j + 1)) : Nat) : Int) = (p2 : Int)) := Lib.hid (by rw [HC2.out, if_neg (fun h => h g2)]; have := HP2.out; omega)
            have HQ1 : Hid (((p + Pl.cnt 1 (X.take (j + 1)) : Nat) : Int) = (p1 : Int) + 1) := Lib.hid (by rw [HC1.out, if_pos g1]; have := HP1.out; omega)
            clear g2 g1 HC2 HC1
            have k2 : IntKind.i64.wrap ((p2 : Int) + 1) = (p2 : Int) + 1 := IntWalk.i64_in _ (by omega)
            have k1 : IntKind.i64.wrap ((p1 : Int) + 1) = (p1 : Int) + 1 := IntWalk.i64_in _ (by omega)
            go_wp2_with (first
              | (have h9 := bz
                 refine st_df (k := d) bz rfl rfl _ _ rfl rfl rfl ?_
                 clear h9
                 intro w9 bY hO9
                 have hb9 : Below wi.heap.size wi w9 := HBz.out.trans (hO9.below (Nat.le_refl _))
                 have q0 := bY.cell 0
                 have HV9 := Lib.hid (HV.out.trans (hb9.mono HV.out.size))
                 clear bz hO9 hb9 bY hr)
              | (have h9 := hr
                 refine ldm_df hr rfl _ rfl rfl ?_
                 clear h9))
            clear q0
            go_roundw
            case rel => exact ⟨j + 1, by omega, by go_num, by rw [HQ2.out], by rw [HQ1.out], HV9.out⟩
            case measure => simp [intOf]; omega
        · obtain rfl : k = j := by omega
          have HF2 : Hid (((p + Pl.cnt 2 (X.take k) : Nat) : Int) = (n1 : Int)) := Lib.hid (by rw [List.take_of_length_le (by rw [HM.out]; exact Nat.le_refl _), HMI.out])
          have HF1 : Hid (((p + Pl.cnt 1 (X.take k) : Nat) : Int) = (n2 : Int)) := Lib.hid (by rw [List.take_of_length_le (by rw [HM.out]; exact Nat.le_refl _), HTH.out])
          rw [HF2.out, HF1.out]
          have HB9 := Lib.hid (HB8.out.trans (hV.mono HB8.out.size))
          go_wp2_with fail
          refine (awake_any wi).mono ?_
          rintro e w10 ⟨rfl, hb10⟩
          have HB10 := Lib.hid (HB9.out.trans (hb10.mono HB9.out.size))
          clear hb10
          go_wp2
          go_ret
          exact ⟨rfl, HB10.out⟩
end Go.Proofs.Ytalfffkcmddakaa
