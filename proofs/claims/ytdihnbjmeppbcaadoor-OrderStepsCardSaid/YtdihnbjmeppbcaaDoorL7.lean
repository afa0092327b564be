/- OrderSteps. -/
import Derived.Test.YtdihnbjmeppbcaaDoorL5
import Derived.Test.YtdihnbjmeppbcaaDoorP7
import Derived.Test.YtdihnbjmeppbcaaDoorOpenN
import Derived.Laws.AppendOwnNone
namespace Go.Proofs.YtdihnbjmeppbcaaDoor
open Go.RowKit Go.Shelf

theorem infoPr3 : (Tryd.prog.info? 67).map (fun i => (i.zero, i.size, i.bytes)) = some (some (.agg #[.string ⟨#[]⟩, .int .i64 0, .slice none 0 0]), 3, 48) := by kernel_rfl
theorem PrIn.below {W W' : World} {p : Pl.Pr} (h : PrIn W p) (hb : Below W.heap.size W W') : PrIn W' p := ⟨h.1.below hb, h.2⟩

/-- a list that came in, appended to nil -/
theorem wpList_append_prs {ops : Array Oper} {rest : List Oper} {o : Oper} {a : Act} {w : World} {Q : Exit → Act → World → Prop} (hgd : o.guard = none) (s x : Operand)
    (ho : o.op = .call { callee := .builtin .append, args := #[s, x], argTypes := #[22, 22] }) (hs : a.eval s = .slice none 0 0)
    (A : Option Addr) (l : List Pl.Pr) (c : Nat) (hx : a.eval x = .slice A l.length c) (hR : Rows prL 3 w A l) (hn : A = none → l.length = 0 ∧ c = 0) (h60 : l.length ≤ 60)
    (h : ∀ v' w', w'.ownsRow w.heap.size 67 3 v' l.length (flt prL l) → Below w.heap.size w w' → wpList Tryd.prog ops Q rest (a.put o.dst v') w') : wpList Tryd.prog ops Q (o :: rest) a w := by
  obtain ⟨i0, hi, hz0, hz1, hz2⟩ := info_parts infoPr3
  cases A with
  | none =>
    obtain ⟨hz, rfl⟩ := hn rfl
    obtain rfl : l = [] := List.eq_nil_of_length_eq_zero hz
    exact wpList_append_own_none hgd s x _ ho w.heap.size _ i0 3 Tryd.underlying22 hi _ 0 (flt prL []) hs (World.ownsRow_nil _ _ _ _) hx (h _ _ (World.ownsRow_nil _ _ _ _) (Below.refl _ _))
  | some ad =>
    have hcells : ∀ j u, (flt prL l)[j]? = some u → w.cell? (ad.add j) = some u := by
      rcases hR with h | ⟨b, off, h1, h2, h3⟩
      · intro j u hj; rw [h] at hj; simp [flt] at hj
      · cases h1; exact rows_cells encPr h3
    refine wpList_append_own _ hgd s x _ ho w.heap.size 67 i0 _ 3 48 Tryd.underlying22 hi hz0 hz1 hz2 rfl (by decide) _ 0 [] hs (World.ownsRow_nil _ _ _ _) ad l.length c (flt prL l) hx (flt_len encPr l) hcells (flt_one' encPr l) (by unfold maxLen; omega) (by omega) (Nat.le_refl _) ?_
    intro v' w' ho' hg _
    rw [Nat.zero_add, List.nil_append] at ho'
    exact h v' w' ho' ((Below.refl _ _).grown hg (Nat.le_refl _) (fun s e => by cases e))

set_option maxRecDepth 100000 in
set_option maxHeartbeats 16000000 in
theorem law_steps (A : Option Addr) (l : List Pl.Pr) (c : Nat) (B : Option Addr) (r : List Pl.Rt) (j : Nat) (s : ByteArray) (x y : Int) (o : Pl.Pr) (w : World) (hP : PrsIn w A l c) (hR : RtsIn w B r j) (hs : s.size ≤ maxLen) (hO : PrIn w o) (hnil : A = none → l.length = 0 ∧ c = 0) :
    Calls Tryd.prog 12 #[.agg (mkA A l c B r j), .agg (asA s x y), .agg (prA o)] w fun e w' => e = .returned (.bool true) ∧ Below w.heap.size w w' := by
  have s63 := max63 hs
  have om63 := max63 hO.2.2.2
  have ok63 := max63 (Nat.le_trans hO.2.1 hO.2.2.1)
  have hB0 := (Below.refl w.heap.size w).alloc (Nat.le_refl _) (.cells (mkA A l c B r j) 25)
  have hB1 := hB0.alloc (by simp) (.cells (asA s x y) 35)
  have hB := hB1.alloc (by simp only [World.size_alloc]; omega) (.cells (prA o) 67)
  have bM := ((Blk.new w 25 (mkA A l c B r j)).alloc (.cells (asA s x y) 35)).alloc (.cells (prA o) 67)
  have bY := (Blk.new (w.alloc (.cells (mkA A l c B r j) 25)) 35 (asA s x y)).alloc (.cells (prA o) 67)
  have bO := Blk.new ((w.alloc (.cells (mkA A l c B r j) 25)).alloc (.cells (asA s x y) 35)) 67 (prA o)
  simp only [World.size_alloc] at bY bO
  have HC := Lib.hid sane_any
  have HW := Lib.hid (fun w' hb => wide_any A l c B r j zFm w' (hP.below (W' := w') hb) (hR.below hb) (zFm_in _))
  obtain ⟨V1, hV1⟩ : ∃ V, Pl.vps l = V := ⟨_, rfl⟩
  have H0 := Lib.hid (fun w' hb => rvprices_b A l c _ rfl V1 hV1 w' (hP.below (W' := w') hb))
  have H1 := Lib.hid (fun w' hb => Price_b A l c _ rfl s x y w' (hP.below (W' := w') hb))
  have HL60 : Hid (V1 = true → l.length ≤ 60) := Lib.hid (fun h => by
    have h1 : Pl.vls Pl.vp Pl.pk l = true := by rw [← Pl.vps_eq, hV1]; exact h
    exact (Pl.vls_true.1 h1).1)
  have H2 := Lib.hid (fun w' A2 c2 hI => Price_b A2 (l ++ [o]) c2 _ rfl s x y w' hI)
  have H3 := Lib.hid (fun w' A2 c2 hI => rvprices_b A2 (l ++ [o]) c2 _ rfl _ rfl w' hI)
  have HIN : Hid (∀ w' A2 c2, Below w.heap.size w w' → Rows prL 3 w' A2 (l ++ [o]) → (l ++ [o]).length ≤ c2 → c2 ≤ maxLen → PrsIn w' A2 (l ++ [o]) c2) := Lib.hid (fun w' A2 c2 hb h1 h2 h3 => ⟨h1, h2, h3, fun z hz => by
    rcases List.mem_append.1 hz with h | h
    · exact PrIn.below (hP.each z h) hb
    · rw [List.mem_singleton.1 h]; exact hO.below hb⟩)
  have HBAD : Hid (Pl.vps (l ++ [o]) = false → Pl.prU (l ++ [o]) s x y = 0 ∧ Pl.prG (l ++ [o]) s x y = 80) := Lib.hid Pl.prG_bad
  have HMORE : Hid (V1 = true → Pl.vps (l ++ [o]) = true → ¬ (o.md = s ∧ o.d ≤ x) → Pl.prU (l ++ [o]) s x y = Pl.prU l s x y ∧ Pl.prG (l ++ [o]) s x y = Pl.prG l s x y) := Lib.hid (fun h h2 h3 => Pl.prG_more (hV1.trans h) h2 h3)
  have HP := Lib.hid hP.rows
  have HLEN : Hid ((l ++ [o]).length = l.length + 1) := Lib.hid (by simp)
  generalize Pl.prU l s x y = U at *
  generalize Pl.prG l s x y = E at *
  generalize Pl.prU (l ++ [o]) s x y = U2 at *
  generalize Pl.prG (l ++ [o]) s x y = E2 at *
  generalize Pl.vps (l ++ [o]) = V2 at *
  obtain ⟨i0, hi, hz0, hz1, hz2⟩ := info_parts infoPr3
  have hr1 := bM.range
  have hMl := bM.lt
  have hYl := bY.lt
  have hOl := bO.lt
  have y0 := bY.cell 0
  have o0 := bO.cell 0
  have o2 := bO.cell 2
  have HM := Lib.hid bM
  have HY := Lib.hid bY
  have HOB := Lib.hid bO
  have HNIL := Lib.hid hnil
  generalize hWo : ((w.alloc (.cells (mkA A l c B r j) 25)).alloc (.cells (asA s x y) 35)).alloc (.cells (prA o) 67) = W at *
  clear hP hR hs hO bM bY bO hB0 hB1 hV1 hnil
  go_enter Tryd.func12, Tryd.ntmps12
  go_wp2_with (refine ldm_mk hr1 rfl _ rfl rfl ?_)
  refine (HW.out _ hB).mono ?_
  rintro e w2 ⟨⟨v, rfl⟩, hb2⟩
  have hB2 := hB.trans (hb2.mono hB.size)
  have bM2 := HM.out.below hb2 hMl
  have bY2 := HY.out.below hb2 hYl
  have bO2 := HOB.out.below hb2 hOl
  have hMl2 := bM2.lt
  have hYl2 := bY2.lt
  have hOl2 := bO2.lt
  clear y0 o0 o2 hr1 hb2 HW hB HM HY HOB hWo hMl hYl hOl
  have m0 := bM2.cell 0
  have a0 := bY2.cell 0
  have o0 := bO2.cell 0
  have o2 := bO2.cell 2
  cases v
  rotate_left
  · go_wp2_with fail
    refine (HC.out _).mono ?_
    rintro e w3 ⟨rfl, hb3⟩
    have hB3 := hB2.trans (hb3.mono hB2.size)
    go_wp2
    go_ret
    exact ⟨rfl, hB3⟩
  by_cases h40 : (40 : Int) < (s.size : Int)
  · go_wp2_with fail
    refine (HC.out _).mono ?_
    rintro e w3 ⟨rfl, hb3⟩
    have hB3 := hB2.trans (hb3.mono hB2.size)
    go_wp2
    go_ret
    exact ⟨rfl, hB3⟩
  by_cases h12 : (12 : Int) < (o.st.length : Int)
  · go_wp2_with fail
    refine (HC.out _).mono ?_
    rintro e w3 ⟨rfl, hb3⟩
    have hB3 := hB2.trans (hb3.mono hB2.size)
    go_wp2
    go_ret
    exact ⟨rfl, hB3⟩
  by_cases h41 : (40 : Int) < (o.md.size : Int)
  · go_wp2_with fail
    refine (HC.out _).mono ?_
    rintro e w3 ⟨rfl, hb3⟩
    have hB3 := hB2.trans (hb3.mono hB2.size)
    go_wp2
    go_ret
    exact ⟨rfl, hB3⟩
  go_wp2_with fail
  refine (H0.out _ hB2).mono ?_
  rintro e w3 ⟨rfl, hb3⟩
  have hB3 := hB2.trans (hb3.mono hB2.size)
  have bM3 := bM2.below hb3 hMl2
  have bY3 := bY2.below hb3 hYl2
  have bO3 := bO2.below hb3 hOl2
  have hMl3 := bM3.lt
  have hYl3 := bY3.lt
  have hOl3 := bO3.lt
  clear m0 a0 o0 o2 bM2 bY2 bO2 hb3 hMl2 hYl2 hOl2 hB2 H0
  have m0 := bM3.cell 0
  have a0 := bY3.cell 0
  have a1 := bY3.cell 1
  have a2 := bY3.cell 2
  cases V1
  · go_wp2_with fail
    refine (HC.out _).mono ?_
    rintro e w4 ⟨rfl, hb4⟩
    have hB4 := hB3.trans (hb4.mono hB3.size)
    go_wp2
    go_ret
    exact ⟨rfl, hB4⟩
  have hl60 := HL60.out rfl
  go_wp2_with fail
  refine (H1.out _ hB3).mono ?_
  rintro e w4 ⟨rfl, hb4⟩
  have hB4 := hB3.trans (hb4.mono hB3.size)
  have bM4 := bM3.below hb4 hMl3
  have bY4 := bY3.below hb4 hYl3
  have bO4 := bO3.below hb4 hOl3
  have hMl4 := bM4.lt
  have hYl4 := bY4.lt
  have hOl4 := bO4.lt
  clear m0 a0 a1 a2 bM3 bY3 bO3 hb4 hMl3 hYl3 hOl3 hB3 H1
  have m0 := bM4.cell 0
  have HP4 := Lib.hid (HP.out.below hB4)
  go_wp2_with (first | (at_builtin; refine wpList_append_prs rfl _ _ rfl rfl A l c rfl HP4.out HNIL.out hl60 ?_; intro v5 w5 hown5 hb5; have hro5 := (bO4.below hb5 hOl4).range; have HOW := Lib.hid (hown5.alloc (.cells (prL o).toArray 67))) | refine ldm_pr hro5 rfl _ rfl rfl ?_ | (at_builtin; refine wpList_append_own _ rfl _ _ 22 rfl w4.heap.size 67 i0 _ 3 48 Tryd.underlying22 hi hz0 hz1 hz2 rfl (by decide) _ _ _ rfl HOW.out ⟨w5.heap.size, 0, none⟩ 1 1 (prL o) rfl rfl (new_cells' _ _ _ rfl) (encPr.one o) (by unfold maxLen; omega) (by omega) (by have := hb5.size; simp; omega) ?_; intro v6 w6 hown6 hg6 _; have hb6 := (hb5.alloc hb5.size (.cells (prL o).toArray 67)).grown hg6 (hb5.alloc hb5.size _).size (fun s e => (hown5.lt s e).1); have a0 := (bY4.below hb6 hYl4).cell 0; have a1 := (bY4.below hb6 hYl4).cell 1; have a2 := (bY4.below hb6 hYl4).cell 2))
  have hB6 := hB4.trans (hb6.mono hB4.size)
  have bY6 := bY4.below hb6 hYl4
  have bO6 := bO4.below hb6 hOl4
  have hYl6 := bY6.lt
  have hOl6 := bO6.lt
  rw [← HLEN.out, show flt prL l ++ prL o = flt prL (l ++ [o]) by rw [flt_append, flt_one]] at hown6
  obtain ⟨A2, c2, rfl, hR6, hc6, hm6⟩ := rows_of_owns encPr hown6
  have HI6 := Lib.hid (HIN.out w6 A2 c2 hB6 hR6 hc6 hm6)
  have HK2 := Lib.hid (H2.out w6 A2 c2 HI6.out)
  have HK3 := Lib.hid (fun w' (hb : Below w6.heap.size w6 w') => H3.out w' A2 c2 (HI6.out.below hb))
  clear m0 hro5 HOW hown5 hb5 hown6 hg6 hb6 hR6 hc6 hm6 HI6 bM4 bY4 bO4 hMl4 hYl4 hOl4 HP4 HP HNIL H2 H3 HIN HLEN hB4 hi hz0 hz1 hz2
  generalize (l ++ [o]).length = n2 at *
  refine HK2.out.mono ?_
  rintro e w7 ⟨rfl, hb7⟩
  have hB7 := hB6.trans (hb7.mono hB6.size)
  have HK4 := Lib.hid (HK3.out w7 hb7)
  have bY7 := bY6.below hb7 hYl6
  have bO7 := bO6.below hb7 hOl6
  have hYl7 := bY7.lt
  have hOl7 := bO7.lt
  clear a0 a1 a2 HK2 HK3 hb7 bY6 bO6 hYl6 hOl6 hB6
  go_wp2_with fail
  refine HK4.out.mono ?_
  rintro e w8 ⟨rfl, hb8⟩
  have hB8 := hB7.trans (hb8.mono hB7.size)
  have bY8 := bY7.below hb8 hYl7
  have bO8 := bO7.below hb8 hOl7
  clear HK4 hb8 bY7 bO7 hYl7 hOl7 hB7
  cases V2
  · obtain ⟨u1, u2⟩ := HBAD.out rfl
    subst u1 u2
    go_wp2_with fail
    refine (HC.out _).mono ?_
    rintro e w9 ⟨rfl, hb9⟩
    have hB9 := hB8.trans (hb9.mono hB8.size)
    go_wp2
    go_ret
    exact ⟨rfl, hB9⟩
  have a0 := bY8.cell 0
  have a1 := bY8.cell 1
  have o0 := bO8.cell 0
  have o1 := bO8.cell 1
  have HMR := Lib.hid (HMORE.out (by first | rfl | trivial) (by first | rfl | trivial))
  obtain ⟨b1, hb1⟩ : ∃ b, (o.md.toList == s.toList) = b := ⟨_, rfl⟩
  have HQ : Hid (o.md = s ↔ b1 = true) := Lib.hid (by rw [← hb1, bs_eq, decide_eq_true_iff])
  cases b1
  · obtain ⟨u1, u2⟩ := HMR.out (fun h => by have := HQ.out.1 h.1; cases this)
    subst u1 u2
    clear HMORE HMR
    go_wp2_with fail
    refine (HC.out _).mono ?_
    rintro e w9 ⟨rfl, hb9⟩
    have hB9 := hB8.trans (hb9.mono hB8.size)
    go_wp2
    go_ret
    exact ⟨rfl, hB9⟩
  by_cases hd : o.d ≤ x
  · have d1 : decide (o.d ≤ x) = true := decide_eq_true hd
    clear HMORE HMR
    go_wp2_with fail
    refine (HC.out _).mono ?_
    rintro e w9 ⟨rfl, hb9⟩
    have hB9 := hB8.trans (hb9.mono hB8.size)
    go_wp2
    go_ret
    exact ⟨rfl, hB9⟩
  · have d1 : decide (o.d ≤ x) = false := decide_eq_false hd
    obtain ⟨u1, u2⟩ := HMR.out (fun h => hd h.2)
    subst u1 u2
    clear HMORE HMR
    go_wp2_with fail
    refine (HC.out _).mono ?_
    rintro e w9 ⟨rfl, hb9⟩
    have hB9 := hB8.trans (hb9.mono hB8.size)
    go_wp2
    go_ret
    exact ⟨rfl, hB9⟩
end Go.Proofs.YtdihnbjmeppbcaaDoor
