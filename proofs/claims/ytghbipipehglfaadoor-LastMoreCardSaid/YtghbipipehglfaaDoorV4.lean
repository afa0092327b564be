/- The law LastMore. -/
import Derived.Test.YtghbipipehglfaaDoorD2
namespace Go.Proofs.YtghbipipehglfaaDoor
open Go.RowKit Go.Shelf

theorem wpOp_go' {P : Program} {ops : Array Oper} {Q : Exit → Act → World → Prop} {K : Act → World → Prop} {a : Act} {w : World} {i : Nat} {o : Oper} (ho : ops[i]? = some o) (hw : Region.wanted o (yielded ops a.tmps) = true)
    (h : ∀ K' : Act → World → Prop, (∀ a w, K a w → K' a w) → Oper.wp P o a w K' Q) : wpOp P ops Q i K a w :=
  wpOp_step ho fun K' hK => by rw [if_pos hw]; exact h K' hK
theorem step_append_run {P : Program} {o : Oper} {a : Act} {w w1 : World} {K : Act → World → Prop} {Q : Exit → Act → World → Prop} (s x : Operand) (t : TypeId) (ho : o.op = .call { callee := .builtin .append, args := #[s, x], argTypes := #[t, t] })
    (v sl v' : Value) (hs : a.eval s = v) (hx : a.eval x = sl) (hr : (Builtin.append_ #[t, t] o.type #[v, sl]).run P w = .ok v' w1) (hK : K (a.put o.dst v') w1) : o.wp P a w K Q := by
  unfold Oper.wp execOp
  simp only [ho, resolve, invoke, builtin, Sem.run_bind, Sem.run_pure, Result.andThen_ok, List.map_toArray, List.map_cons, List.map_nil, hs, hx, hr]
  exact hK
theorem Blk.far3 {w w' : World} {g g0 : Nat} {t : TypeId} {cs : Array Value} (h : Blk w g t cs) (hg : w.grownBy w' (some g0)) (hne : g ≠ g0) : Blk w' g t cs :=
  (hg.block g h.lt (fun e => hne (Option.some.inj e))).trans h

theorem yld_size {ops : Array Oper} {S : World → Prop} {op : Oper} {a : Act} {b : Nat} {E : Pl.Sz} (hS : ∀ w, S w → w.rangeAt b 0 (szA E).toList) (hw : Region.wanted op (yielded ops a.tmps) = true) (x : Operand) (ho : op.op = .load 46 x) (hx : a.eval x = .pointer (some ⟨b, 0, none⟩)) : YieldsIf Tryd.prog ops S op (.agg (szA E)) a :=
  yieldsIf_load_mid hw 46 x ho b 0 hx (szA E).toList _ hS Tryd.underlying46 rfl info24
theorem yld_head {ops : Array Oper} {S : World → Prop} {op : Oper} {a : Act} {b : Nat} {E : Pl.Hd} (hS : ∀ w, S w → w.rangeAt b 0 (hdA E).toList) (hw : Region.wanted op (yielded ops a.tmps) = true) (x : Operand) (ho : op.op = .load 34 x) (hx : a.eval x = .pointer (some ⟨b, 0, none⟩)) : YieldsIf Tryd.prog ops S op (.agg (hdA E)) a :=
  yieldsIf_load_mid hw 34 x ho b 0 hx (hdA E).toList _ hS Tryd.underlying34 rfl info26
theorem lenS {f : FuncId} {a2 : Value} {A : Option Addr} {n m c : Nat} {w : World} {Q : Ending → World → Prop} (e : n = m) (h : Calls Tryd.prog f #[.slice A m c, a2] w Q) : Calls Tryd.prog f #[.slice A n c, a2] w Q := by
  subst e; exact h
theorem lenH {f : FuncId} {a1 : Value} {A : Option Addr} {n m c : Nat} {w : World} {Q : Ending → World → Prop} (e : n = m) (h : Calls Tryd.prog f #[a1, .slice A m c] w Q) : Calls Tryd.prog f #[a1, .slice A n c] w Q := by
  subst e; exact h

set_option maxRecDepth 100000 in
set_option maxHeartbeats 32000000 in
theorem law_more (A B : Option Addr) (ss : List Pl.Sz) (hs : List Pl.Hd) (c d : Nat) (s : Pl.Sz) (h : Pl.Hd) (w : World) (hT : Tab w) (hnA : A = none → ss.length = 0 ∧ c = 0) (hnB : B = none → hs.length = 0 ∧ d = 0)
    (hI : Szs w A ss) (hJ : Hds w B hs) :
    Calls Tryd.prog 7 #[.slice A ss.length c, .slice B hs.length d, .agg (szA s), .agg (hdA h)] w fun e w' => e = .returned (.bool true) ∧ Below w.heap.size w w' := by
  have hB0 := ((Below.refl w.heap.size w).alloc (Nat.le_refl _) (.cells (szA s) 46)).alloc (by simp) (.cells (hdA h) 34)
  have bS := (Blk.new w 46 (szA s)).alloc (.cells (hdA h) 34)
  have bH := Blk.new (w.alloc (.cells (szA s) 46)) 34 (hdA h)
  simp only [World.size_alloc] at bH
  have H1 := Lib.hid (fun (w' : World) (hb : Below w.heap.size w w') => Cover_any A B ss hs c d w' (hT.below hb) (hI.below hb) (hJ.below hb))
  have H2 := Lib.hid (fun (A' : Option Addr) (n' c' : Nat) (w' : World) (hn' : n' = (ss ++ [s]).length) (hb : Below w.heap.size w w') (hI' : Szs w' A' (ss ++ [s])) => lenS hn' (Cover_any A' B (ss ++ [s]) hs c' d w' (hT.below hb) hI' (hJ.below hb)))
  have H3 := Lib.hid (fun (B' : Option Addr) (n' d' : Nat) (w' : World) (hn' : n' = (hs ++ [h]).length) (hb : Below w.heap.size w w') (hJ' : Hds w' B' (hs ++ [h])) => lenH hn' (Cover_any A B' ss (hs ++ [h]) c d' w' (hT.below hb) (hI.below hb) hJ'))
  have HS : Hid (coE ss hs = 0 → coE (ss ++ [s]) hs ≠ 32 ∧ (coE (ss ++ [s]) hs = 0 → (nts (coL (ss ++ [s]) hs)).length ≤ (nts (coL ss hs)).length)) := Lib.hid (by rw [nts_len, nts_len]; exact fun hg => more_size s hg)
  have HH : Hid (coE ss hs = 0 → coE ss (hs ++ [h]) = 0 → (nts (coL ss hs)).length ≤ (nts (coL ss (hs ++ [h]))).length) := Lib.hid (by rw [nts_len, nts_len]; exact fun hg h2 => more_head h hg h2)
  have HN := Lib.hid (fun (hg : coE ss hs = 0) => (⟨(co_gr hg).2.1, (bothE_ok (co_gr hg).1).2.1⟩ : ss.length ≤ 12 ∧ hs.length ≤ 40))
  have HnA := Lib.hid hnA
  have HnB := Lib.hid hnB
  have HI0 := Lib.hid (fun (w' : World) (hb : Below w.heap.size w w') => hI.below hb)
  have HJ0 := Lib.hid (fun (w' : World) (hb : Below w.heap.size w w') => hJ.below hb)
  generalize coE ss hs = e1 at *
  generalize coE (ss ++ [s]) hs = e2 at *
  generalize coE ss (hs ++ [h]) = e3 at *
  generalize nts (coL ss hs) = L1 at *
  generalize nts (coL (ss ++ [s]) hs) = L2 at *
  generalize nts (coL ss (hs ++ [h])) = L3 at *
  clear hI hJ hnA hnB hT
  go_enter Tryd.func7, Tryd.ntmps7
  go_wp2_with fail
  refine (H1.out _ hB0).mono ?_
  rintro e w1 ⟨v1, rfl, hown1, hb1⟩
  obtain ⟨A1, k1, rfl, hI1, _⟩ := own_list hown1
  have hB1 := hB0.trans (hb1.mono hB0.size)
  have hlS := bS.lt
  have hlH := bH.lt
  have bS1 := bS.below hb1 hlS
  have bH1 := bH.below hb1 hlH
  clear bS bH hlS hlH hb1 hown1
  by_cases hg : e1 = 0
  · subst hg
    obtain ⟨h12, h40⟩ := HN.out rfl
    have HMS := Lib.hid (HS.out rfl)
    have HMH := Lib.hid (HH.out rfl)
    have HC2 := Lib.hid (fun (A' : Option Addr) (n' c' : Nat) (w' : World) (hn' : n' = (ss ++ [s]).length) (hb : Below w1.heap.size w1 w') (hI' : Szs w' A' (ss ++ [s])) => H2.out A' n' c' w' hn' (hB1.trans (hb.mono hB1.size)) hI')
    have HI := Lib.hid (fun (w' : World) (hb : Below w1.heap.size w1 w') => HI0.out w' (hB1.trans (hb.mono hB1.size)))
    have HKS : Hid (∀ W, Below w1.heap.size w1 W → W.rangeAt w.heap.size 0 (szA s).toList) := Lib.hid fun W hb => (bS1.below hb bS1.lt).range
    have HB1 := Lib.hid hB1
    have HbH1 := Lib.hid bH1
    clear HS HH HN H1 H2 HI0 hB1 bS1 bH1 hB0
    go_wp2
    refine Code.wp_mono (Q := fun e' a' w' => e' = .normal ∧ ∃ y24 y25 y26 y27 y28 y29 y30 y31 y32 y33 y34 A2 k2, a' = { tmps := #[.slice A ss.length c, .slice B hs.length d, .agg (szA s), .agg (hdA h), undef, undef, .pointer (some ⟨w.heap.size, 0, none⟩), .pointer (some ⟨w.heap.size + 1, 0, none⟩), .bool false, .slice A1 L1.length k1, .int .i64 0, .slice A2 L2.length k2, .int .i64 e2, undef, undef, .tuple #[.slice A1 L1.length k1, .int .i64 0], .slice A ss.length c, .slice B hs.length d, .tuple #[.slice A1 L1.length k1, .int .i64 0], .slice A1 L1.length k1, .int .i64 0, .int .i64 0, .bool false, undef, y24, y25, y26, y27, y28, y29, y30, y31, y32, y33, y34, undef, undef, undef, undef, undef, undef, undef, undef, undef, undef, undef, undef, undef, undef, undef, undef, undef, undef, undef, undef, undef, undef, undef, undef, undef, undef, undef, undef, undef, undef, undef, undef, undef, undef, undef, undef], defers := [] } ∧ Ints w' A2 L2 ∧ Below w1.heap.size w1 w') ?goon ?region
    case region =>
      refine wp_region_held (S := fun W => Below w1.heap.size w1 W) (by kernel_rfl) ?_
      change wpAnyH _ _ _ _ _ _ _ _ (World.drew _)
      have hb0 := (Below.refl w1.heap.size w1).drew
      obtain ⟨W0, hW0⟩ : ∃ W0, World.drew w1 = W0 := ⟨_, rfl⟩
      rw [hW0] at hb0 ⊢
      clear hW0
      have hTk := HKS.out
      refine wpAnyH_take (i := 1) (v := ?_) rfl (by kernel_rfl) (by decide +kernel) (by decide +kernel) (fun _ _ _ h => by cases h.1) (Or.inl ⟨by rfl, ?_⟩) hb0 ?_
      rotate_left
      · intro w' hS; first | (go_simp; done) | (go_simp; with_reducible rfl)
      refine wpAnyH_take (i := 3) (v := .agg (szA s)) rfl (by kernel_rfl) (by decide +kernel) (by decide +kernel) (fun _ _ _ h => by cases h.1) (yld_size hTk (by kernel_rfl) _ rfl rfl) hb0 ?_
      refine wpAnyH_take (i := 6) (v := ?_) rfl (by kernel_rfl) (by decide +kernel) (by decide +kernel) (fun _ _ _ h => by cases h.1) (Or.inl ⟨by rfl, ?_⟩) hb0 ?_
      rotate_left
      · intro w' hS; first | (go_simp; done) | (go_simp; with_reducible rfl)
      clear hTk
      refine wpAnyH_all (rs := [0, 4]) (by decide +kernel) (by simp) ?_
      intro x hx
      rcases List.mem_cons.1 hx with rfl | hx
      · refine wpOp_go' rfl rfl (fun K hK => ?_)
        have hoE : (W0.alloc (.cells #[] 46)).ownsRow w1.heap.size 46 17 (.slice (some ⟨W0.heap.size, 0, none⟩) 0 0) 0 [] := World.ownsRow_lit (e := 46) (size := 17) (base := w1.heap.size) W0 #[] 0 hb0.size (by unfold maxLen; omega) rfl
        have hb1 := hb0.alloc hb0.size (.cells #[] 46)
        go_simp
        refine hK _ _ ⟨hb1, ?_⟩
        clear hK K hx
        generalize W0.alloc (.cells #[] 46) = W1 at *
        generalize W0.heap.size = g0 at *
        refine wpAnyH_all (rs := [2, 4]) (by decide +kernel) (by simp) ?_
        intro x hx
        rcases List.mem_cons.1 hx with rfl | hx
        · obtain ⟨v3, W2, hr3, ho3, hg3⟩ := app_sz W1 A ss c HnA.out (by omega) (HI.out W1 hb1) g0 w1.heap.size hoE hb1.size
          have hb2 := hb1.grown hg3 hb1.size (fun s e => (hoE.lt s e).1)
          have HR3 := Lib.hid hr3
          clear hr3 hoE hg3
          refine wpOp_go' rfl rfl (fun K hK => ?_)
          refine step_append_run (.tmp 25) (.tmp 26) 22 rfl _ _ _ rfl rfl HR3.out (hK _ _ ⟨hb2, ?_⟩)
          clear hK K hx HR3
          refine wpAnyH_all (rs := [4]) (by decide +kernel) (by simp) ?_
          intro x hx
          obtain rfl := List.mem_singleton.1 hx
          refine wpOp_go' rfl rfl (fun K hK => ?_)
          have hk3 := Blk.new W2 46 (szA s)
          have hb3 := hb2.alloc hb2.size (.cells (szA s) 46)
          have ho3 := ho3.alloc (.cells (szA s) 46)
          go_simp
          refine hK _ _ ⟨hb3, ?_⟩
          clear hK K hx
          generalize W2.alloc (.cells (szA s) 46) = W3 at *
          generalize W2.heap.size = g1 at *
          obtain ⟨A9, c9, w9, hr9, hS9, hg9⟩ := app1_sz W3 ss s v3 w1.heap.size ho3 (by omega) g1 hk3 hb3.size
          have hb9 := hb3.trans hg9
          have HR9 := Lib.hid hr9
          clear hr9 hg9 ho3 hk3
          refine wpAnyH_all (rs := [5]) (by decide +kernel) (by simp) ?_
          intro x hx
          obtain rfl := List.mem_singleton.1 hx
          refine wpOp_go' rfl rfl (fun K hK => ?_)
          refine step_append_run (.tmp 27) (.tmp 29) 22 rfl _ _ _ rfl rfl HR9.out (hK _ _ ⟨hb9, ?_⟩)
          clear hK K hx HR9
          refine wpAnyH_all (rs := [7]) (by decide +kernel) (by simp) ?_
          intro x hx
          obtain rfl := List.mem_singleton.1 hx
          refine wpOp_go' rfl rfl (fun K hK => ?_)
          go_simp
          refine (HC2.out A9 _ c9 w9 (by simp) hb9 hS9).mono ?_
          rintro e w10 ⟨v10, rfl, hown10, hb10⟩
          have hbA := hb9.trans (hb10.mono hb9.size)
          obtain ⟨A10, c10, rfl, hI10, _⟩ := own_list hown10
          refine hK _ _ ⟨hbA, ?_⟩
          clear hK K hx hown10 hb10 hS9 hb9
          refine wpAnyH_take (i := 8) (v := ?_) rfl (by kernel_rfl) (by decide +kernel) (by decide +kernel) (fun _ _ _ h => by cases h.1) (Or.inl ⟨by rfl, ?_⟩) hbA ?_
          rotate_left
          · intro w' hS; first | (go_simp; done) | (go_simp; with_reducible rfl)
          refine wpAnyH_take (i := 9) (v := ?_) rfl (by kernel_rfl) (by decide +kernel) (by decide +kernel) (fun _ _ _ h => by cases h.1) (Or.inl ⟨by rfl, ?_⟩) hbA ?_
          rotate_left
          · intro w' hS; first | (go_simp; done) | (go_simp; with_reducible rfl)
          refine wpAnyH_take (i := 10) (v := ?_) rfl (by kernel_rfl) (by decide +kernel) (by decide +kernel) (fun _ _ _ h => by cases h.1) (Or.inl ⟨by rfl, ?_⟩) hbA ?_
          rotate_left
          · intro w' hS; first | (go_simp; done) | (go_simp; with_reducible rfl)
          refine wpAnyH_take (i := 11) (v := ?_) rfl (by kernel_rfl) (by decide +kernel) (by decide +kernel) (fun _ _ _ h => by cases h.1) (Or.inl ⟨by rfl, ?_⟩) hbA ?_
          rotate_left
          · intro w' hS; first | (go_simp; done) | (go_simp; with_reducible rfl)
          refine wpAnyH_take (i := 12) (v := ?_) rfl (by kernel_rfl) (by decide +kernel) (by decide +kernel) (fun _ _ _ h => by cases h.1) (Or.inl ⟨by rfl, ?_⟩) hbA ?_
          rotate_left
          · intro w' hS; first | (go_simp; done) | (go_simp; with_reducible rfl)
          refine wpAnyH_done (by decide +kernel) ?_ _
          exact ⟨rfl, _, _, _, _, _, _, _, _, _, _, _, _, _, rfl, hI10, hbA⟩
        · obtain rfl := List.mem_singleton.1 hx
          refine wpOp_go' rfl rfl (fun K hK => ?_)
          have hk2 := Blk.new W1 46 (szA s)
          have hb2 := hb1.alloc hb1.size (.cells (szA s) 46)
          have hne : W1.heap.size ≠ g0 := by have := (hoE.lt g0 rfl).2; omega
          have hoE := hoE.alloc (.cells (szA s) 46)
          go_simp
          refine hK _ _ ⟨hb2, ?_⟩
          clear hK K hx
          generalize W1.alloc (.cells (szA s) 46) = W2 at *
          generalize W1.heap.size = g1 at *
          refine wpAnyH_all (rs := [2]) (by decide +kernel) (by simp) ?_
          intro x hx
          obtain rfl := List.mem_singleton.1 hx
          obtain ⟨v3, W3, hr3, ho3, hg3⟩ := app_sz W2 A ss c HnA.out (by omega) (HI.out W2 hb2) g0 w1.heap.size hoE hb2.size
          have hb3 := hb2.grown hg3 hb2.size (fun s e => (hoE.lt s e).1)
          have hk3 := hk2.far3 hg3 hne
          have HR3 := Lib.hid hr3
          clear hr3 hoE hg3 hk2
          refine wpOp_go' rfl rfl (fun K hK => ?_)
          refine step_append_run (.tmp 25) (.tmp 26) 22 rfl _ _ _ rfl rfl HR3.out (hK _ _ ⟨hb3, ?_⟩)
          clear hK K hx HR3
          obtain ⟨A9, c9, w9, hr9, hS9, hg9⟩ := app1_sz W3 ss s v3 w1.heap.size ho3 (by omega) g1 hk3 hb3.size
          have hb9 := hb3.trans hg9
          have HR9 := Lib.hid hr9
          clear hr9 hg9 ho3 hk3
          refine wpAnyH_all (rs := [5]) (by decide +kernel) (by simp) ?_
          intro x hx
          obtain rfl := List.mem_singleton.1 hx
          refine wpOp_go' rfl rfl (fun K hK => ?_)
          refine step_append_run (.tmp 27) (.tmp 29) 22 rfl _ _ _ rfl rfl HR9.out (hK _ _ ⟨hb9, ?_⟩)
          clear hK K hx HR9
          refine wpAnyH_all (rs := [7]) (by decide +kernel) (by simp) ?_
          intro x hx
          obtain rfl := List.mem_singleton.1 hx
          refine wpOp_go' rfl rfl (fun K hK => ?_)
          go_simp
          refine (HC2.out A9 _ c9 w9 (by simp) hb9 hS9).mono ?_
          rintro e w10 ⟨v10, rfl, hown10, hb10⟩
          have hbA := hb9.trans (hb10.mono hb9.size)
          obtain ⟨A10, c10, rfl, hI10, _⟩ := own_list hown10
          refine hK _ _ ⟨hbA, ?_⟩
          clear hK K hx hown10 hb10 hS9 hb9
          refine wpAnyH_take (i := 8) (v := ?_) rfl (by kernel_rfl) (by decide +kernel) (by decide +kernel) (fun _ _ _ h => by cases h.1) (Or.inl ⟨by rfl, ?_⟩) hbA ?_
          rotate_left
          · intro w' hS; first | (go_simp; done) | (go_simp; with_reducible rfl)
          refine wpAnyH_take (i := 9) (v := ?_) rfl (by kernel_rfl) (by decide +kernel) (by decide +kernel) (fun _ _ _ h => by cases h.1) (Or.inl ⟨by rfl, ?_⟩) hbA ?_
          rotate_left
          · intro w' hS; first | (go_simp; done) | (go_simp; with_reducible rfl)
          refine wpAnyH_take (i := 10) (v := ?_) rfl (by kernel_rfl) (by decide +kernel) (by decide +kernel) (fun _ _ _ h => by cases h.1) (Or.inl ⟨by rfl, ?_⟩) hbA ?_
          rotate_left
          · intro w' hS; first | (go_simp; done) | (go_simp; with_reducible rfl)
          refine wpAnyH_take (i := 11) (v := ?_) rfl (by kernel_rfl) (by decide +kernel) (by decide +kernel) (fun _ _ _ h => by cases h.1) (Or.inl ⟨by rfl, ?_⟩) hbA ?_
          rotate_left
          · intro w' hS; first | (go_simp; done) | (go_simp; with_reducible rfl)
          refine wpAnyH_take (i := 12) (v := ?_) rfl (by kernel_rfl) (by decide +kernel) (by decide +kernel) (fun _ _ _ h => by cases h.1) (Or.inl ⟨by rfl, ?_⟩) hbA ?_
          rotate_left
          · intro w' hS; first | (go_simp; done) | (go_simp; with_reducible rfl)
          refine wpAnyH_done (by decide +kernel) ?_ _
          exact ⟨rfl, _, _, _, _, _, _, _, _, _, _, _, _, _, rfl, hI10, hbA⟩
      · obtain rfl := List.mem_singleton.1 hx
        refine wpOp_go' rfl rfl (fun K hK => ?_)
        have hk1 := Blk.new W0 46 (szA s)
        have hb1 := hb0.alloc hb0.size (.cells (szA s) 46)
        go_simp
        refine hK _ _ ⟨hb1, ?_⟩
        clear hK K hx
        generalize W0.alloc (.cells (szA s) 46) = W1 at *
        generalize W0.heap.size = g1 at *
        refine wpAnyH_all (rs := [0]) (by decide +kernel) (by simp) ?_
        intro x hx
        obtain rfl := List.mem_singleton.1 hx
        refine wpOp_go' rfl rfl (fun K hK => ?_)
        have hoE : (W1.alloc (.cells #[] 46)).ownsRow w1.heap.size 46 17 (.slice (some ⟨W1.heap.size, 0, none⟩) 0 0) 0 [] := World.ownsRow_lit (e := 46) (size := 17) (base := w1.heap.size) W1 #[] 0 hb1.size (by unfold maxLen; omega) rfl
        have hb2 := hb1.alloc hb1.size (.cells #[] 46)
        have hk2 := hk1.alloc (.cells #[] 46)
        have hne : g1 ≠ W1.heap.size := by have := hk1.lt; omega
        go_simp
        refine hK _ _ ⟨hb2, ?_⟩
        clear hK K hx hk1
        generalize W1.alloc (.cells #[] 46) = W2 at *
        generalize W1.heap.size = g0 at *
        refine wpAnyH_all (rs := [2]) (by decide +kernel) (by simp) ?_
        intro x hx
        obtain rfl := List.mem_singleton.1 hx
        obtain ⟨v3, W3, hr3, ho3, hg3⟩ := app_sz W2 A ss c HnA.out (by omega) (HI.out W2 hb2) g0 w1.heap.size hoE hb2.size
        have hb3 := hb2.grown hg3 hb2.size (fun s e => (hoE.lt s e).1)
        have hk3 := hk2.far3 hg3 hne
        have HR3 := Lib.hid hr3
        clear hr3 hoE hg3 hk2
        refine wpOp_go' rfl rfl (fun K hK => ?_)
        refine step_append_run (.tmp 25) (.tmp 26) 22 rfl _ _ _ rfl rfl HR3.out (hK _ _ ⟨hb3, ?_⟩)
        clear hK K hx HR3
        obtain ⟨A9, c9, w9, hr9, hS9, hg9⟩ := app1_sz W3 ss s v3 w1.heap.size ho3 (by omega) g1 hk3 hb3.size
        have hb9 := hb3.trans hg9
        have HR9 := Lib.hid hr9
        clear hr9 hg9 ho3 hk3
        refine wpAnyH_all (rs := [5]) (by decide +kernel) (by simp) ?_
        intro x hx
        obtain rfl := List.mem_singleton.1 hx
        refine wpOp_go' rfl rfl (fun K hK => ?_)
        refine step_append_run (.tmp 27) (.tmp 29) 22 rfl _ _ _ rfl rfl HR9.out (hK _ _ ⟨hb9, ?_⟩)
        clear hK K hx HR9
        refine wpAnyH_all (rs := [7]) (by decide +kernel) (by simp) ?_
        intro x hx
        obtain rfl := List.mem_singleton.1 hx
        refine wpOp_go' rfl rfl (fun K hK => ?_)
        go_simp
        refine (HC2.out A9 _ c9 w9 (by simp) hb9 hS9).mono ?_
        rintro e w10 ⟨v10, rfl, hown10, hb10⟩
        have hbA := hb9.trans (hb10.mono hb9.size)
        obtain ⟨A10, c10, rfl, hI10, _⟩ := own_list hown10
        refine hK _ _ ⟨hbA, ?_⟩
        clear hK K hx hown10 hb10 hS9 hb9
        refine wpAnyH_take (i := 8) (v := ?_) rfl (by kernel_rfl) (by decide +kernel) (by decide +kernel) (fun _ _ _ h => by cases h.1) (Or.inl ⟨by rfl, ?_⟩) hbA ?_
        rotate_left
        · intro w' hS; first | (go_simp; done) | (go_simp; with_reducible rfl)
        refine wpAnyH_take (i := 9) (v := ?_) rfl (by kernel_rfl) (by decide +kernel) (by decide +kernel) (fun _ _ _ h => by cases h.1) (Or.inl ⟨by rfl, ?_⟩) hbA ?_
        rotate_left
        · intro w' hS; first | (go_simp; done) | (go_simp; with_reducible rfl)
        refine wpAnyH_take (i := 10) (v := ?_) rfl (by kernel_rfl) (by decide +kernel) (by decide +kernel) (fun _ _ _ h => by cases h.1) (Or.inl ⟨by rfl, ?_⟩) hbA ?_
        rotate_left
        · intro w' hS; first | (go_simp; done) | (go_simp; with_reducible rfl)
        refine wpAnyH_take (i := 11) (v := ?_) rfl (by kernel_rfl) (by decide +kernel) (by decide +kernel) (fun _ _ _ h => by cases h.1) (Or.inl ⟨by rfl, ?_⟩) hbA ?_
        rotate_left
        · intro w' hS; first | (go_simp; done) | (go_simp; with_reducible rfl)
        refine wpAnyH_take (i := 12) (v := ?_) rfl (by kernel_rfl) (by decide +kernel) (by decide +kernel) (fun _ _ _ h => by cases h.1) (Or.inl ⟨by rfl, ?_⟩) hbA ?_
        rotate_left
        · intro w' hS; first | (go_simp; done) | (go_simp; with_reducible rfl)
        refine wpAnyH_done (by decide +kernel) ?_ _
        exact ⟨rfl, _, _, _, _, _, _, _, _, _, _, _, _, _, rfl, hI10, hbA⟩
    rintro _ _ w3 ⟨rfl, y24, y25, y26, y27, y28, y29, y30, y31, y32, y33, y34, A2, k2, rfl, hI2, hb3⟩
    clear HC2 HI HKS
    have hB3 := HB1.out.trans (hb3.mono HB1.out.size)
    have bH3 := HbH1.out.below hb3 HbH1.out.lt
    have HC3 := Lib.hid (fun (B' : Option Addr) (n' d' : Nat) (w' : World) (hn' : n' = (hs ++ [h]).length) (hb : Below w3.heap.size w3 w') (hJ' : Hds w' B' (hs ++ [h])) => H3.out B' n' d' w' hn' (hB3.trans (hb.mono hB3.size)) hJ')
    have HJ := Lib.hid (fun (w' : World) (hb : Below w3.heap.size w3 w') => HJ0.out w' (hB3.trans (hb.mono hB3.size)))
    have HKH : Hid (∀ W, Below w3.heap.size w3 W → W.rangeAt (w.heap.size + 1) 0 (hdA h).toList) := Lib.hid fun W hb => (bH3.below hb bH3.lt).range
    have HB3 := Lib.hid hB3
    have f32 : (e2 == 32) = false := by have := HMS.out.1; simpa using this
    by_cases he2 : e2 = 0
    · subst he2
      have hle := HMS.out.2 (by first | rfl | trivial)
      have hng : ¬ ((L1.length : Int) < L2.length) := by omega
      clear HMS hle f32
      go_wp2
      refine Code.wp_mono (Q := fun e' a' w' => e' = .normal ∧ ∃ y48 y49 y50 y51 y52 y53 y54 y55 y56 y57 y58 B3 k3, a' = { tmps := #[.slice A ss.length c, .slice B hs.length d, .agg (szA s), .agg (hdA h), undef, undef, .pointer (some ⟨w.heap.size, 0, none⟩), .pointer (some ⟨w.heap.size + 1, 0, none⟩), .bool false, .slice A1 L1.length k1, .int .i64 0, .slice A2 L2.length k2, .int .i64 0, .slice B3 L3.length k3, .int .i64 e3, .tuple #[.slice A1 L1.length k1, .int .i64 0], .slice A ss.length c, .slice B hs.length d, .tuple #[.slice A1 L1.length k1, .int .i64 0], .slice A1 L1.length k1, .int .i64 0, .int .i64 0, .bool false, undef, y24, y25, y26, y27, y28, y29, y30, y31, y32, y33, y34, .int .i64 0, .bool true, .bool true, .slice A2 L2.length k2, .int .i64 (L2.length : Nat), .slice A1 L1.length k1, .int .i64 (L1.length : Nat), .bool false, .bool false, .bool false, .int .i64 0, .bool false, .bool false, y48, y49, y50, y51, y52, y53, y54, y55, y56, y57, y58, undef, undef, undef, undef, undef, undef, undef, undef, undef, undef, undef, undef], defers := [] } ∧ Ints w' B3 L3 ∧ Below w3.heap.size w3 w') ?goonA ?regionA
      case regionA =>
        refine wp_region_held (S := fun W => Below w3.heap.size w3 W) (by kernel_rfl) ?_
        change wpAnyH _ _ _ _ _ _ _ _ (World.drew _)
        have hb0 := (Below.refl w3.heap.size w3).drew
        obtain ⟨W0, hW0⟩ : ∃ W0, World.drew w3 = W0 := ⟨_, rfl⟩
        rw [hW0] at hb0 ⊢
        clear hW0
        have hTk := HKH.out
        refine wpAnyH_take (i := 0) (v := ?_) rfl (by kernel_rfl) (by decide +kernel) (by decide +kernel) (fun _ _ _ h => by cases h.1) (Or.inl ⟨by rfl, ?_⟩) hb0 ?_
        rotate_left
        · intro w' hS; first | (go_simp; done) | (go_simp; with_reducible rfl)
        refine wpAnyH_take (i := 2) (v := ?_) rfl (by kernel_rfl) (by decide +kernel) (by decide +kernel) (fun _ _ _ h => by cases h.1) (Or.inl ⟨by rfl, ?_⟩) hb0 ?_
        rotate_left
        · intro w' hS; first | (go_simp; done) | (go_simp; with_reducible rfl)
        refine wpAnyH_take (i := 4) (v := .agg (hdA h)) rfl (by kernel_rfl) (by decide +kernel) (by decide +kernel) (fun _ _ _ h => by cases h.1) (yld_head hTk (by kernel_rfl) _ rfl rfl) hb0 ?_
        clear hTk
        refine wpAnyH_all (rs := [1, 5]) (by decide +kernel) (by simp) ?_
        intro x hx
        rcases List.mem_cons.1 hx with rfl | hx
        · refine wpOp_go' rfl rfl (fun K hK => ?_)
          have hoE : (W0.alloc (.cells #[] 34)).ownsRow w3.heap.size 34 6 (.slice (some ⟨W0.heap.size, 0, none⟩) 0 0) 0 [] := World.ownsRow_lit (e := 34) (size := 6) (base := w3.heap.size) W0 #[] 0 hb0.size (by unfold maxLen; omega) rfl
          have hb1 := hb0.alloc hb0.size (.cells #[] 34)
          go_simp
          refine hK _ _ ⟨hb1, ?_⟩
          clear hK K hx
          generalize W0.alloc (.cells #[] 34) = W1 at *
          generalize W0.heap.size = g0 at *
          refine wpAnyH_all (rs := [3, 5]) (by decide +kernel) (by simp) ?_
          intro x hx
          rcases List.mem_cons.1 hx with rfl | hx
          · obtain ⟨v3, W2, hr3, ho3, hg3⟩ := app_hd W1 B hs d HnB.out (by omega) (HJ.out W1 hb1) g0 w3.heap.size hoE hb1.size
            have hb2 := hb1.grown hg3 hb1.size (fun s e => (hoE.lt s e).1)
            have HR3 := Lib.hid hr3
            clear hr3 hoE hg3
            refine wpOp_go' rfl rfl (fun K hK => ?_)
            refine step_append_run (.tmp 50) (.tmp 51) 23 rfl _ _ _ rfl rfl HR3.out (hK _ _ ⟨hb2, ?_⟩)
            clear hK K hx HR3
            refine wpAnyH_all (rs := [5]) (by decide +kernel) (by simp) ?_
            intro x hx
            obtain rfl := List.mem_singleton.1 hx
            refine wpOp_go' rfl rfl (fun K hK => ?_)
            have hk3 := Blk.new W2 34 (hdA h)
            have hb3 := hb2.alloc hb2.size (.cells (hdA h) 34)
            have ho3 := ho3.alloc (.cells (hdA h) 34)
            go_simp
            refine hK _ _ ⟨hb3, ?_⟩
            clear hK K hx
            generalize W2.alloc (.cells (hdA h) 34) = W3 at *
            generalize W2.heap.size = g1 at *
            obtain ⟨A9, c9, w9, hr9, hS9, hg9⟩ := app1_hd W3 hs h v3 w3.heap.size ho3 (by omega) g1 hk3 hb3.size
            have hb9 := hb3.trans hg9
            have HR9 := Lib.hid hr9
            clear hr9 hg9 ho3 hk3
            refine wpAnyH_all (rs := [6]) (by decide +kernel) (by simp) ?_
            intro x hx
            obtain rfl := List.mem_singleton.1 hx
            refine wpOp_go' rfl rfl (fun K hK => ?_)
            refine step_append_run (.tmp 52) (.tmp 54) 23 rfl _ _ _ rfl rfl HR9.out (hK _ _ ⟨hb9, ?_⟩)
            clear hK K hx HR9
            refine wpAnyH_all (rs := [7]) (by decide +kernel) (by simp) ?_
            intro x hx
            obtain rfl := List.mem_singleton.1 hx
            refine wpOp_go' rfl rfl (fun K hK => ?_)
            go_simp
            refine (HC3.out A9 _ c9 w9 (by simp) hb9 hS9).mono ?_
            rintro e w10 ⟨v10, rfl, hown10, hb10⟩
            have hbA := hb9.trans (hb10.mono hb9.size)
            obtain ⟨A10, c10, rfl, hI10, _⟩ := own_list hown10
            refine hK _ _ ⟨hbA, ?_⟩
            clear hK K hx hown10 hb10 hS9 hb9
            refine wpAnyH_take (i := 8) (v := ?_) rfl (by kernel_rfl) (by decide +kernel) (by decide +kernel) (fun _ _ _ h => by cases h.1) (Or.inl ⟨by rfl, ?_⟩) hbA ?_
            rotate_left
            · intro w' hS; first | (go_simp; done) | (go_simp; with_reducible rfl)
            refine wpAnyH_take (i := 9) (v := ?_) rfl (by kernel_rfl) (by decide +kernel) (by decide +kernel) (fun _ _ _ h => by cases h.1) (Or.inl ⟨by rfl, ?_⟩) hbA ?_
            rotate_left
            · intro w' hS; first | (go_simp; done) | (go_simp; with_reducible rfl)
            refine wpAnyH_take (i := 10) (v := ?_) rfl (by kernel_rfl) (by decide +kernel) (by decide +kernel) (fun _ _ _ h => by cases h.1) (Or.inl ⟨by rfl, ?_⟩) hbA ?_
            rotate_left
            · intro w' hS; first | (go_simp; done) | (go_simp; with_reducible rfl)
            refine wpAnyH_take (i := 11) (v := ?_) rfl (by kernel_rfl) (by decide +kernel) (by decide +kernel) (fun _ _ _ h => by cases h.1) (Or.inl ⟨by rfl, ?_⟩) hbA ?_
            rotate_left
            · intro w' hS; first | (go_simp; done) | (go_simp; with_reducible rfl)
            refine wpAnyH_take (i := 12) (v := ?_) rfl (by kernel_rfl) (by decide +kernel) (by decide +kernel) (fun _ _ _ h => by cases h.1) (Or.inl ⟨by rfl, ?_⟩) hbA ?_
            rotate_left
            · intro w' hS; first | (go_simp; done) | (go_simp; with_reducible rfl)
            refine wpAnyH_done (by decide +kernel) ?_ _
            exact ⟨rfl, _, _, _, _, _, _, _, _, _, _, _, _, _, rfl, hI10, hbA⟩
          · obtain rfl := List.mem_singleton.1 hx
            refine wpOp_go' rfl rfl (fun K hK => ?_)
            have hk2 := Blk.new W1 34 (hdA h)
            have hb2 := hb1.alloc hb1.size (.cells (hdA h) 34)
            have hne : W1.heap.size ≠ g0 := by have := (hoE.lt g0 rfl).2; omega
            have hoE := hoE.alloc (.cells (hdA h) 34)
            go_simp
            refine hK _ _ ⟨hb2, ?_⟩
            clear hK K hx
            generalize W1.alloc (.cells (hdA h) 34) = W2 at *
            generalize W1.heap.size = g1 at *
            refine wpAnyH_all (rs := [3]) (by decide +kernel) (by simp) ?_
            intro x hx
            obtain rfl := List.mem_singleton.1 hx
            obtain ⟨v3, W3, hr3, ho3, hg3⟩ := app_hd W2 B hs d HnB.out (by omega) (HJ.out W2 hb2) g0 w3.heap.size hoE hb2.size
            have hb3 := hb2.grown hg3 hb2.size (fun s e => (hoE.lt s e).1)
            have hk3 := hk2.far3 hg3 hne
            have HR3 := Lib.hid hr3
            clear hr3 hoE hg3 hk2
            refine wpOp_go' rfl rfl (fun K hK => ?_)
            refine step_append_run (.tmp 50) (.tmp 51) 23 rfl _ _ _ rfl rfl HR3.out (hK _ _ ⟨hb3, ?_⟩)
            clear hK K hx HR3
            obtain ⟨A9, c9, w9, hr9, hS9, hg9⟩ := app1_hd W3 hs h v3 w3.heap.size ho3 (by omega) g1 hk3 hb3.size
            have hb9 := hb3.trans hg9
            have HR9 := Lib.hid hr9
            clear hr9 hg9 ho3 hk3
            refine wpAnyH_all (rs := [6]) (by decide +kernel) (by simp) ?_
            intro x hx
            obtain rfl := List.mem_singleton.1 hx
            refine wpOp_go' rfl rfl (fun K hK => ?_)
            refine step_append_run (.tmp 52) (.tmp 54) 23 rfl _ _ _ rfl rfl HR9.out (hK _ _ ⟨hb9, ?_⟩)
            clear hK K hx HR9
            refine wpAnyH_all (rs := [7]) (by decide +kernel) (by simp) ?_
            intro x hx
            obtain rfl := List.mem_singleton.1 hx
            refine wpOp_go' rfl rfl (fun K hK => ?_)
            go_simp
            refine (HC3.out A9 _ c9 w9 (by simp) hb9 hS9).mono ?_
            rintro e w10 ⟨v10, rfl, hown10, hb10⟩
            have hbA := hb9.trans (hb10.mono hb9.size)
            obtain ⟨A10, c10, rfl, hI10, _⟩ := own_list hown10
            refine hK _ _ ⟨hbA, ?_⟩
            clear hK K hx hown10 hb10 hS9 hb9
            refine wpAnyH_take (i := 8) (v := ?_) rfl (by kernel_rfl) (by decide +kernel) (by decide +kernel) (fun _ _ _ h => by cases h.1) (Or.inl ⟨by rfl, ?_⟩) hbA ?_
            rotate_left
            · intro w' hS; first | (go_simp; done) | (go_simp; with_reducible rfl)
            refine wpAnyH_take (i := 9) (v := ?_) rfl (by kernel_rfl) (by decide +kernel) (by decide +kernel) (fun _ _ _ h => by cases h.1) (Or.inl ⟨by rfl, ?_⟩) hbA ?_
            rotate_left
            · intro w' hS; first | (go_simp; done) | (go_simp; with_reducible rfl)
            refine wpAnyH_take (i := 10) (v := ?_) rfl (by kernel_rfl) (by decide +kernel) (by decide +kernel) (fun _ _ _ h => by cases h.1) (Or.inl ⟨by rfl, ?_⟩) hbA ?_
            rotate_left
            · intro w' hS; first | (go_simp; done) | (go_simp; with_reducible rfl)
            refine wpAnyH_take (i := 11) (v := ?_) rfl (by kernel_rfl) (by decide +kernel) (by decide +kernel) (fun _ _ _ h => by cases h.1) (Or.inl ⟨by rfl, ?_⟩) hbA ?_
            rotate_left
            · intro w' hS; first | (go_simp; done) | (go_simp; with_reducible rfl)
            refine wpAnyH_take (i := 12) (v := ?_) rfl (by kernel_rfl) (by decide +kernel) (by decide +kernel) (fun _ _ _ h => by cases h.1) (Or.inl ⟨by rfl, ?_⟩) hbA ?_
            rotate_left
            · intro w' hS; first | (go_simp; done) | (go_simp; with_reducible rfl)
            refine wpAnyH_done (by decide +kernel) ?_ _
            exact ⟨rfl, _, _, _, _, _, _, _, _, _, _, _, _, _, rfl, hI10, hbA⟩
        · obtain rfl := List.mem_singleton.1 hx
          refine wpOp_go' rfl rfl (fun K hK => ?_)
          have hk1 := Blk.new W0 34 (hdA h)
          have hb1 := hb0.alloc hb0.size (.cells (hdA h) 34)
          go_simp
          refine hK _ _ ⟨hb1, ?_⟩
          clear hK K hx
          generalize W0.alloc (.cells (hdA h) 34) = W1 at *
          generalize W0.heap.size = g1 at *
          refine wpAnyH_all (rs := [1]) (by decide +kernel) (by simp) ?_
          intro x hx
          obtain rfl := List.mem_singleton.1 hx
          refine wpOp_go' rfl rfl (fun K hK => ?_)
          have hoE : (W1.alloc (.cells #[] 34)).ownsRow w3.heap.size 34 6 (.slice (some ⟨W1.heap.size, 0, none⟩) 0 0) 0 [] := World.ownsRow_lit (e := 34) (size := 6) (base := w3.heap.size) W1 #[] 0 hb1.size (by unfold maxLen; omega) rfl
          have hb2 := hb1.alloc hb1.size (.cells #[] 34)
          have hk2 := hk1.alloc (.cells #[] 34)
          have hne : g1 ≠ W1.heap.size := by have := hk1.lt; omega
          go_simp
          refine hK _ _ ⟨hb2, ?_⟩
          clear hK K hx hk1
          generalize W1.alloc (.cells #[] 34) = W2 at *
          generalize W1.heap.size = g0 at *
          refine wpAnyH_all (rs := [3]) (by decide +kernel) (by simp) ?_
          intro x hx
          obtain rfl := List.mem_singleton.1 hx
          obtain ⟨v3, W3, hr3, ho3, hg3⟩ := app_hd W2 B hs d HnB.out (by omega) (HJ.out W2 hb2) g0 w3.heap.size hoE hb2.size
          have hb3 := hb2.grown hg3 hb2.size (fun s e => (hoE.lt s e).1)
          have hk3 := hk2.far3 hg3 hne
          have HR3 := Lib.hid hr3
          clear hr3 hoE hg3 hk2
          refine wpOp_go' rfl rfl (fun K hK => ?_)
          refine step_append_run (.tmp 50) (.tmp 51) 23 rfl _ _ _ rfl rfl HR3.out (hK _ _ ⟨hb3, ?_⟩)
          clear hK K hx HR3
          obtain ⟨A9, c9, w9, hr9, hS9, hg9⟩ := app1_hd W3 hs h v3 w3.heap.size ho3 (by omega) g1 hk3 hb3.size
          have hb9 := hb3.trans hg9
          have HR9 := Lib.hid hr9
          clear hr9 hg9 ho3 hk3
          refine wpAnyH_all (rs := [6]) (by decide +kernel) (by simp) ?_
          intro x hx
          obtain rfl := List.mem_singleton.1 hx
          refine wpOp_go' rfl rfl (fun K hK => ?_)
          refine step_append_run (.tmp 52) (.tmp 54) 23 rfl _ _ _ rfl rfl HR9.out (hK _ _ ⟨hb9, ?_⟩)
          clear hK K hx HR9
          refine wpAnyH_all (rs := [7]) (by decide +kernel) (by simp) ?_
          intro x hx
          obtain rfl := List.mem_singleton.1 hx
          refine wpOp_go' rfl rfl (fun K hK => ?_)
          go_simp
          refine (HC3.out A9 _ c9 w9 (by simp) hb9 hS9).mono ?_
          rintro e w10 ⟨v10, rfl, hown10, hb10⟩
          have hbA := hb9.trans (hb10.mono hb9.size)
          obtain ⟨A10, c10, rfl, hI10, _⟩ := own_list hown10
          refine hK _ _ ⟨hbA, ?_⟩
          clear hK K hx hown10 hb10 hS9 hb9
          refine wpAnyH_take (i := 8) (v := ?_) rfl (by kernel_rfl) (by decide +kernel) (by decide +kernel) (fun _ _ _ h => by cases h.1) (Or.inl ⟨by rfl, ?_⟩) hbA ?_
          rotate_left
          · intro w' hS; first | (go_simp; done) | (go_simp; with_reducible rfl)
          refine wpAnyH_take (i := 9) (v := ?_) rfl (by kernel_rfl) (by decide +kernel) (by decide +kernel) (fun _ _ _ h => by cases h.1) (Or.inl ⟨by rfl, ?_⟩) hbA ?_
          rotate_left
          · intro w' hS; first | (go_simp; done) | (go_simp; with_reducible rfl)
          refine wpAnyH_take (i := 10) (v := ?_) rfl (by kernel_rfl) (by decide +kernel) (by decide +kernel) (fun _ _ _ h => by cases h.1) (Or.inl ⟨by rfl, ?_⟩) hbA ?_
          rotate_left
          · intro w' hS; first | (go_simp; done) | (go_simp; with_reducible rfl)
          refine wpAnyH_take (i := 11) (v := ?_) rfl (by kernel_rfl) (by decide +kernel) (by decide +kernel) (fun _ _ _ h => by cases h.1) (Or.inl ⟨by rfl, ?_⟩) hbA ?_
          rotate_left
          · intro w' hS; first | (go_simp; done) | (go_simp; with_reducible rfl)
          refine wpAnyH_take (i := 12) (v := ?_) rfl (by kernel_rfl) (by decide +kernel) (by decide +kernel) (fun _ _ _ h => by cases h.1) (Or.inl ⟨by rfl, ?_⟩) hbA ?_
          rotate_left
          · intro w' hS; first | (go_simp; done) | (go_simp; with_reducible rfl)
          refine wpAnyH_done (by decide +kernel) ?_ _
          exact ⟨rfl, _, _, _, _, _, _, _, _, _, _, _, _, _, rfl, hI10, hbA⟩
      rintro _ _ w4 ⟨rfl, y48, y49, y50, y51, y52, y53, y54, y55, y56, y57, y58, B3, k3, rfl, _, hb4⟩
      clear HC3 HJ HKH
      have hB4 := HB3.out.trans (hb4.mono HB3.out.size)
      by_cases he3 : e3 = 0
      · subst he3
        have hle3 := HMH.out (by first | rfl | trivial)
        have hge3 : (L1.length : Int) ≤ L3.length := by omega
        clear HMH hle3
        go_wp2_with fail
        refine (awake_any _).mono ?_
        rintro e w7 ⟨rfl, hb7⟩
        go_wp2
        go_ret
        exact ⟨rfl, hB4.trans (hb7.mono hB4.size)⟩
      · have f3 : (e3 != 0) = true := by simpa using he3
        clear HMH he3
        go_wp2_with fail
        refine (awake_any _).mono ?_
        rintro e w7 ⟨rfl, hb7⟩
        go_wp2
        go_ret
        exact ⟨rfl, hB4.trans (hb7.mono hB4.size)⟩
    · have f2 : (e2 == 0) = false := by simpa using he2
      clear HMS he2
      go_wp2
      refine Code.wp_mono (Q := fun e' a' w' => e' = .normal ∧ ∃ y48 y49 y50 y51 y52 y53 y54 y55 y56 y57 y58 B3 k3, a' = { tmps := #[.slice A ss.length c, .slice B hs.length d, .agg (szA s), .agg (hdA h), undef, undef, .pointer (some ⟨w.heap.size, 0, none⟩), .pointer (some ⟨w.heap.size + 1, 0, none⟩), .bool false, .slice A1 L1.length k1, .int .i64 0, .slice A2 L2.length k2, .int .i64 e2, .slice B3 L3.length k3, .int .i64 e3, .tuple #[.slice A1 L1.length k1, .int .i64 0], .slice A ss.length c, .slice B hs.length d, .tuple #[.slice A1 L1.length k1, .int .i64 0], .slice A1 L1.length k1, .int .i64 0, .int .i64 0, .bool false, undef, y24, y25, y26, y27, y28, y29, y30, y31, y32, y33, y34, .int .i64 e2, .bool false, .bool false, undef, undef, undef, undef, undef, .bool false, .bool false, .int .i64 e2, .bool false, .bool false, y48, y49, y50, y51, y52, y53, y54, y55, y56, y57, y58, undef, undef, undef, undef, undef, undef, undef, undef, undef, undef, undef, undef], defers := [] } ∧ Ints w' B3 L3 ∧ Below w3.heap.size w3 w') ?goonB ?regionB
      case regionB =>
        refine wp_region_held (S := fun W => Below w3.heap.size w3 W) (by kernel_rfl) ?_
        change wpAnyH _ _ _ _ _ _ _ _ (World.drew _)
        have hb0 := (Below.refl w3.heap.size w3).drew
        obtain ⟨W0, hW0⟩ : ∃ W0, World.drew w3 = W0 := ⟨_, rfl⟩
        rw [hW0] at hb0 ⊢
        clear hW0
        have hTk := HKH.out
        refine wpAnyH_take (i := 0) (v := ?_) rfl (by kernel_rfl) (by decide +kernel) (by decide +kernel) (fun _ _ _ h => by cases h.1) (Or.inl ⟨by rfl, ?_⟩) hb0 ?_
        rotate_left
        · intro w' hS; first | (go_simp; done) | (go_simp; with_reducible rfl)
        refine wpAnyH_take (i := 2) (v := ?_) rfl (by kernel_rfl) (by decide +kernel) (by decide +kernel) (fun _ _ _ h => by cases h.1) (Or.inl ⟨by rfl, ?_⟩) hb0 ?_
        rotate_left
        · intro w' hS; first | (go_simp; done) | (go_simp; with_reducible rfl)
        refine wpAnyH_take (i := 4) (v := .agg (hdA h)) rfl (by kernel_rfl) (by decide +kernel) (by decide +kernel) (fun _ _ _ h => by cases h.1) (yld_head hTk (by kernel_rfl) _ rfl rfl) hb0 ?_
        clear hTk
        refine wpAnyH_all (rs := [1, 5]) (by decide +kernel) (by simp) ?_
        intro x hx
        rcases List.mem_cons.1 hx with rfl | hx
        · refine wpOp_go' rfl rfl (fun K hK => ?_)
          have hoE : (W0.alloc (.cells #[] 34)).ownsRow w3.heap.size 34 6 (.slice (some ⟨W0.heap.size, 0, none⟩) 0 0) 0 [] := World.ownsRow_lit (e := 34) (size := 6) (base := w3.heap.size) W0 #[] 0 hb0.size (by unfold maxLen; omega) rfl
          have hb1 := hb0.alloc hb0.size (.cells #[] 34)
          go_simp
          refine hK _ _ ⟨hb1, ?_⟩
          clear hK K hx
          generalize W0.alloc (.cells #[] 34) = W1 at *
          generalize W0.heap.size = g0 at *
          refine wpAnyH_all (rs := [3, 5]) (by decide +kernel) (by simp) ?_
          intro x hx
          rcases List.mem_cons.1 hx with rfl | hx
          · obtain ⟨v3, W2, hr3, ho3, hg3⟩ := app_hd W1 B hs d HnB.out (by omega) (HJ.out W1 hb1) g0 w3.heap.size hoE hb1.size
            have hb2 := hb1.grown hg3 hb1.size (fun s e => (hoE.lt s e).1)
            have HR3 := Lib.hid hr3
            clear hr3 hoE hg3
            refine wpOp_go' rfl rfl (fun K hK => ?_)
            refine step_append_run (.tmp 50) (.tmp 51) 23 rfl _ _ _ rfl rfl HR3.out (hK _ _ ⟨hb2, ?_⟩)
            clear hK K hx HR3
            refine wpAnyH_all (rs := [5]) (by decide +kernel) (by simp) ?_
            intro x hx
            obtain rfl := List.mem_singleton.1 hx
            refine wpOp_go' rfl rfl (fun K hK => ?_)
            have hk3 := Blk.new W2 34 (hdA h)
            have hb3 := hb2.alloc hb2.size (.cells (hdA h) 34)
            have ho3 := ho3.alloc (.cells (hdA h) 34)
            go_simp
            refine hK _ _ ⟨hb3, ?_⟩
            clear hK K hx
            generalize W2.alloc (.cells (hdA h) 34) = W3 at *
            generalize W2.heap.size = g1 at *
            obtain ⟨A9, c9, w9, hr9, hS9, hg9⟩ := app1_hd W3 hs h v3 w3.heap.size ho3 (by omega) g1 hk3 hb3.size
            have hb9 := hb3.trans hg9
            have HR9 := Lib.hid hr9
            clear hr9 hg9 ho3 hk3
            refine wpAnyH_all (rs := [6]) (by decide +kernel) (by simp) ?_
            intro x hx
            obtain rfl := List.mem_singleton.1 hx
            refine wpOp_go' rfl rfl (fun K hK => ?_)
            refine step_append_run (.tmp 52) (.tmp 54) 23 rfl _ _ _ rfl rfl HR9.out (hK _ _ ⟨hb9, ?_⟩)
            clear hK K hx HR9
            refine wpAnyH_all (rs := [7]) (by decide +kernel) (by simp) ?_
            intro x hx
            obtain rfl := List.mem_singleton.1 hx
            refine wpOp_go' rfl rfl (fun K hK => ?_)
            go_simp
            refine (HC3.out A9 _ c9 w9 (by simp) hb9 hS9).mono ?_
            rintro e w10 ⟨v10, rfl, hown10, hb10⟩
            have hbA := hb9.trans (hb10.mono hb9.size)
            obtain ⟨A10, c10, rfl, hI10, _⟩ := own_list hown10
            refine hK _ _ ⟨hbA, ?_⟩
            clear hK K hx hown10 hb10 hS9 hb9
            refine wpAnyH_take (i := 8) (v := ?_) rfl (by kernel_rfl) (by decide +kernel) (by decide +kernel) (fun _ _ _ h => by cases h.1) (Or.inl ⟨by rfl, ?_⟩) hbA ?_
            rotate_left
            · intro w' hS; first | (go_simp; done) | (go_simp; with_reducible rfl)
            refine wpAnyH_take (i := 9) (v := ?_) rfl (by kernel_rfl) (by decide +kernel) (by decide +kernel) (fun _ _ _ h => by cases h.1) (Or.inl ⟨by rfl, ?_⟩) hbA ?_
            rotate_left
            · intro w' hS; first | (go_simp; done) | (go_simp; with_reducible rfl)
            refine wpAnyH_take (i := 10) (v := ?_) rfl (by kernel_rfl) (by decide +kernel) (by decide +kernel) (fun _ _ _ h => by cases h.1) (Or.inl ⟨by rfl, ?_⟩) hbA ?_
            rotate_left
            · intro w' hS; first | (go_simp; done) | (go_simp; with_reducible rfl)
            refine wpAnyH_take (i := 11) (v := ?_) rfl (by kernel_rfl) (by decide +kernel) (by decide +kernel) (fun _ _ _ h => by cases h.1) (Or.inl ⟨by rfl, ?_⟩) hbA ?_
            rotate_left
            · intro w' hS; first | (go_simp; done) | (go_simp; with_reducible rfl)
            refine wpAnyH_take (i := 12) (v := ?_) rfl (by kernel_rfl) (by decide +kernel) (by decide +kernel) (fun _ _ _ h => by cases h.1) (Or.inl ⟨by rfl, ?_⟩) hbA ?_
            rotate_left
            · intro w' hS; first | (go_simp; done) | (go_simp; with_reducible rfl)
            refine wpAnyH_done (by decide +kernel) ?_ _
            exact ⟨rfl, _, _, _, _, _, _, _, _, _, _, _, _, _, rfl, hI10, hbA⟩
          · obtain rfl := List.mem_singleton.1 hx
            refine wpOp_go' rfl rfl (fun K hK => ?_)
            have hk2 := Blk.new W1 34 (hdA h)
            have hb2 := hb1.alloc hb1.size (.cells (hdA h) 34)
            have hne : W1.heap.size ≠ g0 := by have := (hoE.lt g0 rfl).2; omega
            have hoE := hoE.alloc (.cells (hdA h) 34)
            go_simp
            refine hK _ _ ⟨hb2, ?_⟩
            clear hK K hx
            generalize W1.alloc (.cells (hdA h) 34) = W2 at *
            generalize W1.heap.size = g1 at *
            refine wpAnyH_all (rs := [3]) (by decide +kernel) (by simp) ?_
            intro x hx
            obtain rfl := List.mem_singleton.1 hx
            obtain ⟨v3, W3, hr3, ho3, hg3⟩ := app_hd W2 B hs d HnB.out (by omega) (HJ.out W2 hb2) g0 w3.heap.size hoE hb2.size
            have hb3 := hb2.grown hg3 hb2.size (fun s e => (hoE.lt s e).1)
            have hk3 := hk2.far3 hg3 hne
            have HR3 := Lib.hid hr3
            clear hr3 hoE hg3 hk2
            refine wpOp_go' rfl rfl (fun K hK => ?_)
            refine step_append_run (.tmp 50) (.tmp 51) 23 rfl _ _ _ rfl rfl HR3.out (hK _ _ ⟨hb3, ?_⟩)
            clear hK K hx HR3
            obtain ⟨A9, c9, w9, hr9, hS9, hg9⟩ := app1_hd W3 hs h v3 w3.heap.size ho3 (by omega) g1 hk3 hb3.size
            have hb9 := hb3.trans hg9
            have HR9 := Lib.hid hr9
            clear hr9 hg9 ho3 hk3
            refine wpAnyH_all (rs := [6]) (by decide +kernel) (by simp) ?_
            intro x hx
            obtain rfl := List.mem_singleton.1 hx
            refine wpOp_go' rfl rfl (fun K hK => ?_)
            refine step_append_run (.tmp 52) (.tmp 54) 23 rfl _ _ _ rfl rfl HR9.out (hK _ _ ⟨hb9, ?_⟩)
            clear hK K hx HR9
            refine wpAnyH_all (rs := [7]) (by decide +kernel) (by simp) ?_
            intro x hx
            obtain rfl := List.mem_singleton.1 hx
            refine wpOp_go' rfl rfl (fun K hK => ?_)
            go_simp
            refine (HC3.out A9 _ c9 w9 (by simp) hb9 hS9).mono ?_
            rintro e w10 ⟨v10, rfl, hown10, hb10⟩
            have hbA := hb9.trans (hb10.mono hb9.size)
            obtain ⟨A10, c10, rfl, hI10, _⟩ := own_list hown10
            refine hK _ _ ⟨hbA, ?_⟩
            clear hK K hx hown10 hb10 hS9 hb9
            refine wpAnyH_take (i := 8) (v := ?_) rfl (by kernel_rfl) (by decide +kernel) (by decide +kernel) (fun _ _ _ h => by cases h.1) (Or.inl ⟨by rfl, ?_⟩) hbA ?_
            rotate_left
            · intro w' hS; first | (go_simp; done) | (go_simp; with_reducible rfl)
            refine wpAnyH_take (i := 9) (v := ?_) rfl (by kernel_rfl) (by decide +kernel) (by decide +kernel) (fun _ _ _ h => by cases h.1) (Or.inl ⟨by rfl, ?_⟩) hbA ?_
            rotate_left
            · intro w' hS; first | (go_simp; done) | (go_simp; with_reducible rfl)
            refine wpAnyH_take (i := 10) (v := ?_) rfl (by kernel_rfl) (by decide +kernel) (by decide +kernel) (fun _ _ _ h => by cases h.1) (Or.inl ⟨by rfl, ?_⟩) hbA ?_
            rotate_left
            · intro w' hS; first | (go_simp; done) | (go_simp; with_reducible rfl)
            refine wpAnyH_take (i := 11) (v := ?_) rfl (by kernel_rfl) (by decide +kernel) (by decide +kernel) (fun _ _ _ h => by cases h.1) (Or.inl ⟨by rfl, ?_⟩) hbA ?_
            rotate_left
            · intro w' hS; first | (go_simp; done) | (go_simp; with_reducible rfl)
            refine wpAnyH_take (i := 12) (v := ?_) rfl (by kernel_rfl) (by decide +kernel) (by decide +kernel) (fun _ _ _ h => by cases h.1) (Or.inl ⟨by rfl, ?_⟩) hbA ?_
            rotate_left
            · intro w' hS; first | (go_simp; done) | (go_simp; with_reducible rfl)
            refine wpAnyH_done (by decide +kernel) ?_ _
            exact ⟨rfl, _, _, _, _, _, _, _, _, _, _, _, _, _, rfl, hI10, hbA⟩
        · obtain rfl := List.mem_singleton.1 hx
          refine wpOp_go' rfl rfl (fun K hK => ?_)
          have hk1 := Blk.new W0 34 (hdA h)
          have hb1 := hb0.alloc hb0.size (.cells (hdA h) 34)
          go_simp
          refine hK _ _ ⟨hb1, ?_⟩
          clear hK K hx
          generalize W0.alloc (.cells (hdA h) 34) = W1 at *
          generalize W0.heap.size = g1 at *
          refine wpAnyH_all (rs := [1]) (by decide +kernel) (by simp) ?_
          intro x hx
          obtain rfl := List.mem_singleton.1 hx
          refine wpOp_go' rfl rfl (fun K hK => ?_)
          have hoE : (W1.alloc (.cells #[] 34)).ownsRow w3.heap.size 34 6 (.slice (some ⟨W1.heap.size, 0, none⟩) 0 0) 0 [] := World.ownsRow_lit (e := 34) (size := 6) (base := w3.heap.size) W1 #[] 0 hb1.size (by unfold maxLen; omega) rfl
          have hb2 := hb1.alloc hb1.size (.cells #[] 34)
          have hk2 := hk1.alloc (.cells #[] 34)
          have hne : g1 ≠ W1.heap.size := by have := hk1.lt; omega
          go_simp
          refine hK _ _ ⟨hb2, ?_⟩
          clear hK K hx hk1
          generalize W1.alloc (.cells #[] 34) = W2 at *
          generalize W1.heap.size = g0 at *
          refine wpAnyH_all (rs := [3]) (by decide +kernel) (by simp) ?_
          intro x hx
          obtain rfl := List.mem_singleton.1 hx
          obtain ⟨v3, W3, hr3, ho3, hg3⟩ := app_hd W2 B hs d HnB.out (by omega) (HJ.out W2 hb2) g0 w3.heap.size hoE hb2.size
          have hb3 := hb2.grown hg3 hb2.size (fun s e => (hoE.lt s e).1)
          have hk3 := hk2.far3 hg3 hne
          have HR3 := Lib.hid hr3
          clear hr3 hoE hg3 hk2
          refine wpOp_go' rfl rfl (fun K hK => ?_)
          refine step_append_run (.tmp 50) (.tmp 51) 23 rfl _ _ _ rfl rfl HR3.out (hK _ _ ⟨hb3, ?_⟩)
          clear hK K hx HR3
          obtain ⟨A9, c9, w9, hr9, hS9, hg9⟩ := app1_hd W3 hs h v3 w3.heap.size ho3 (by omega) g1 hk3 hb3.size
          have hb9 := hb3.trans hg9
          have HR9 := Lib.hid hr9
          clear hr9 hg9 ho3 hk3
          refine wpAnyH_all (rs := [6]) (by decide +kernel) (by simp) ?_
          intro x hx
          obtain rfl := List.mem_singleton.1 hx
          refine wpOp_go' rfl rfl (fun K hK => ?_)
          refine step_append_run (.tmp 52) (.tmp 54) 23 rfl _ _ _ rfl rfl HR9.out (hK _ _ ⟨hb9, ?_⟩)
          clear hK K hx HR9
          refine wpAnyH_all (rs := [7]) (by decide +kernel) (by simp) ?_
          intro x hx
          obtain rfl := List.mem_singleton.1 hx
          refine wpOp_go' rfl rfl (fun K hK => ?_)
          go_simp
          refine (HC3.out A9 _ c9 w9 (by simp) hb9 hS9).mono ?_
          rintro e w10 ⟨v10, rfl, hown10, hb10⟩
          have hbA := hb9.trans (hb10.mono hb9.size)
          obtain ⟨A10, c10, rfl, hI10, _⟩ := own_list hown10
          refine hK _ _ ⟨hbA, ?_⟩
          clear hK K hx hown10 hb10 hS9 hb9
          refine wpAnyH_take (i := 8) (v := ?_) rfl (by kernel_rfl) (by decide +kernel) (by decide +kernel) (fun _ _ _ h => by cases h.1) (Or.inl ⟨by rfl, ?_⟩) hbA ?_
          rotate_left
          · intro w' hS; first | (go_simp; done) | (go_simp; with_reducible rfl)
          refine wpAnyH_take (i := 9) (v := ?_) rfl (by kernel_rfl) (by decide +kernel) (by decide +kernel) (fun _ _ _ h => by cases h.1) (Or.inl ⟨by rfl, ?_⟩) hbA ?_
          rotate_left
          · intro w' hS; first | (go_simp; done) | (go_simp; with_reducible rfl)
          refine wpAnyH_take (i := 10) (v := ?_) rfl (by kernel_rfl) (by decide +kernel) (by decide +kernel) (fun _ _ _ h => by cases h.1) (Or.inl ⟨by rfl, ?_⟩) hbA ?_
          rotate_left
          · intro w' hS; first | (go_simp; done) | (go_simp; with_reducible rfl)
          refine wpAnyH_take (i := 11) (v := ?_) rfl (by kernel_rfl) (by decide +kernel) (by decide +kernel) (fun _ _ _ h => by cases h.1) (Or.inl ⟨by rfl, ?_⟩) hbA ?_
          rotate_left
          · intro w' hS; first | (go_simp; done) | (go_simp; with_reducible rfl)
          refine wpAnyH_take (i := 12) (v := ?_) rfl (by kernel_rfl) (by decide +kernel) (by decide +kernel) (fun _ _ _ h => by cases h.1) (Or.inl ⟨by rfl, ?_⟩) hbA ?_
          rotate_left
          · intro w' hS; first | (go_simp; done) | (go_simp; with_reducible rfl)
          refine wpAnyH_done (by decide +kernel) ?_ _
          exact ⟨rfl, _, _, _, _, _, _, _, _, _, _, _, _, _, rfl, hI10, hbA⟩
      rintro _ _ w4 ⟨rfl, y48, y49, y50, y51, y52, y53, y54, y55, y56, y57, y58, B3, k3, rfl, _, hb4⟩
      clear HC3 HJ HKH
      have hB4 := HB3.out.trans (hb4.mono HB3.out.size)
      by_cases he3 : e3 = 0
      · subst he3
        have hle3 := HMH.out (by first | rfl | trivial)
        have hge3 : (L1.length : Int) ≤ L3.length := by omega
        clear HMH hle3
        go_wp2_with fail
        refine (awake_any _).mono ?_
        rintro e w7 ⟨rfl, hb7⟩
        go_wp2
        go_ret
        exact ⟨rfl, hB4.trans (hb7.mono hB4.size)⟩
      · have f3 : (e3 != 0) = true := by simpa using he3
        clear HMH he3
        go_wp2_with fail
        refine (awake_any _).mono ?_
        rintro e w7 ⟨rfl, hb7⟩
        go_wp2
        go_ret
        exact ⟨rfl, hB4.trans (hb7.mono hB4.size)⟩
  · have hge : (e1 != 0) = true := bne_iff_ne.2 hg
    clear hg H2 H3 HS HH HN
    go_wp2_with fail
    refine (awake_any _).mono ?_
    rintro e w7 ⟨rfl, hb7⟩
    go_wp2
    go_ret
    exact ⟨rfl, hB1.trans (hb7.mono hB1.size)⟩
end Go.Proofs.YtghbipipehglfaaDoor
