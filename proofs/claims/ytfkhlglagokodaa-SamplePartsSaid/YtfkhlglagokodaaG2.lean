/- plan and inspect, of the program. -/
import Derived.Test.YtfkhlglagokodaaG1
import Derived.OneCell
namespace Go.Proofs.Ytfkhlglagokodaa
open Go.RowKit Go.Shelf

theorem results_cell_tmp' {P : Program} {fn : Func} {p q : Tmp} {ty : TypeId} (h : fn.results = #[.cell p ty, .tmp q]) (tmps : Array Value) (w : World) (g : Nat) (t : TypeId) (cs : Array Value) (fr : Nat × Nat) (d : TypeDesc)
    (hp : tmps.getD p undef = .pointer (some ⟨g, 0, none⟩)) (hg : w.heap[g]? = some (.cells cs t fr))
    (hu : P.underlying ty = some d) (hd : (match d with | .struct _ | .array _ _ => true | _ => false) = true) (hi : (P.info? ty).map (·.size) = some cs.size) :
    (results fn tmps).run P w = .ok (.tuple #[.agg cs, tmps.getD q undef]) w := by
  have hp' : tmps[p]?.getD undef = .pointer (some ⟨g, 0, none⟩) := by simpa using hp
  simp [results, h, hp', asAddr, run_loadVar_row w g t ty cs fr d hg hu hd hi]
theorem infoIs : (Try.prog.info? 62).map (·.size) = some 2 := by kernel_rfl
/-- a lot that was inspected -/
abbrev isA (st : Int) (b : Bool) : Array Value := #[.int .i64 st, .bool b]

/-- what an inspection may turn: itself, and lists of truth values -/
structure FrT (g : Nat) (w w' : World) : Prop where
  below : Below g w w'
  typ : ∀ (k : Nat) (cs : Array Value) (t : TypeId) (fr : Nat × Nat), w.heap[k]? = some (.cells cs t fr) → t ≠ 4 → t ≠ 78 → w'.heap[k]? = some (.cells cs t fr)
theorem FrT.trans {g : Nat} {w w' w'' : World} (h : FrT g w w') (k : FrT g w' w'') : FrT g w w'' := ⟨h.below.trans k.below, fun b cs t fr e h1 h2 => k.typ b cs t fr (h.typ b cs t fr e h1 h2) h1 h2⟩
theorem FrT.of {g : Nat} {w w' : World} (h : Below w.heap.size w w') (hg : g ≤ w.heap.size) : FrT g w w' := ⟨h.mono hg, fun k cs t fr e _ _ => by
  have hk : k < w.heap.size := (Array.getElem?_eq_some_iff.1 e).1
  rw [h.block k hk]; exact e⟩
theorem FrT.set {g : Nat} {w : World} {cs : Array Value} (h : Blk w g 78 cs) (i : Nat) (u : Value) : FrT g w (w.setCell ⟨g, i, none⟩ u) :=
  ⟨(Below.refl g w).setCell (p := ⟨g, i, none⟩) (Nat.le_refl _) u, fun k cs' t fr e _ h2 => by
    have hne : k ≠ g := fun e' => by
      subst e'
      have h' : w.heap[k]? = _ := h
      rw [h'] at e
      cases e
      exact h2 rfl
    exact (Below.heap_setCell w ⟨g, i, none⟩ u k hne).trans e⟩
theorem FrT.grown {g B n : Nat} {w w' : World} {v : Value} {xs : List Value} (ho : w.ownsRow B 4 1 v n xs) (hg : w.grownBy w' v.ownBlock) (hB : g ≤ B) (hBs : g ≤ w.heap.size) : FrT g w w' :=
  ⟨(Below.refl g w).grown hg hBs (fun s e => Nat.le_trans hB (ho.lt s e).1), fun k cs t fr e h1 _ => by
    have hk : k < w.heap.size := (Array.getElem?_eq_some_iff.1 e).1
    rw [hg.block k hk fun e' => ?_]
    · exact e
    · rcases ho.2 with ⟨rfl, _⟩ | ⟨b, cap, cur, rfl, _, hb, _⟩
      · simp [Value.ownBlock] at e'
      · obtain rfl : k = b := by simpa [Value.ownBlock] using e'
        rw [e] at hb
        cases hb
        exact h1 rfl⟩
theorem FrT.blk {g k : Nat} {w w' : World} {t : TypeId} {cs : Array Value} (h : FrT g w w') (b : Blk w k t cs) (h1 : t ≠ 4) (h2 : t ≠ 78) : Blk w' k t cs := h.typ k cs t (0, 0) b h1 h2
theorem FrT.own {g B n k : Nat} {w w' : World} {t : TypeId} {v : Value} {xs : List Value} (h : FrT g w w') (ho : w.ownsRow B t k v n xs) (h1 : t ≠ 4) (h2 : t ≠ 78) : w'.ownsRow B t k v n xs := by
  obtain ⟨h0, h3 | ⟨b, cap, cur, e, hb, hh, r⟩⟩ := ho
  · exact ⟨h0, .inl h3⟩
  · exact ⟨h0, .inr ⟨b, cap, cur, e, hb, h.typ b cur t (0, 0) hh h1 h2, r⟩⟩
theorem Blk.grew {w w' : World} {g B n k : Nat} {t E : TypeId} {cs : Array Value} {v : Value} {xs : List Value} (b : Blk w g t cs) (ho : w.ownsRow B E k v n xs) (hg : w.grownBy w' v.ownBlock) (hne : g < B) : Blk w' g t cs :=
  (hg.block g b.lt fun e => by have := (ho.lt g e.symm).1; omega).trans b
theorem own_far {w : World} {g B n k : Nat} {E : TypeId} {v : Value} {xs : List Value} (ho : w.ownsRow B E k v n xs) (hg : g < B) (i : Nat) (u : Value) : (w.setCell ⟨g, i, none⟩ u).ownsRow B E k v n xs :=
  ownsRow_setCell_other ho (a := ⟨g, i, none⟩) (fun e => by have := (ho.lt g e).1; omega) _

theorem own_snoc {w : World} {B n : Nat} {v : Value} {l : List Bool} {b : Bool} (hn : l.length = n) (h : w.ownsRow B 4 1 v (n + 1) (flt boL l ++ boL b)) :
    ∃ A c, v = .slice A (n + 1) c ∧ Rows boL 1 w A (l ++ [b]) ∧ n + 1 ≤ c ∧ (A = none → c = 0) ∧ w.ownsRow B 4 1 v (l ++ [b]).length (flt boL (l ++ [b])) := by
  have e : (l ++ [b]).length = n + 1 := by simp [hn]
  have h' : w.ownsRow B 4 1 v (l ++ [b]).length (flt boL (l ++ [b])) := by rw [e, flt_append, flt_one]; exact h
  obtain ⟨A, c, hv, hr, hle, _⟩ := rows_of_owns encBo h'
  rw [e] at hv hle
  refine ⟨A, c, hv, hr, hle, fun hA => ?_, h'⟩
  obtain ⟨bb, off, hx, _⟩ := hr.open (by rw [e]; omega)
  rw [hA] at hx
  cases hx
theorem FrT.setNew {g R : Nat} {w w' : World} (h : FrT g w w') (hR : w.heap.size ≤ R) (hg : g ≤ R) (i : Nat) (u : Value) : FrT g w (w'.setCell ⟨R, i, none⟩ u) :=
  ⟨h.below.setCell (p := ⟨R, i, none⟩) hg u, fun k cs t fr e h1 h2 => by
    have hk : k < w.heap.size := (Array.getElem?_eq_some_iff.1 e).1
    exact (Below.heap_setCell w' ⟨R, i, none⟩ u k (show k ≠ R by omega)).trans (h.typ k cs t fr e h1 h2)⟩
theorem own_typ_ne {w : World} {B k n R : Nat} {t E : TypeId} {v : Value} {xs : List Value} {cs : Array Value} (ho : w.ownsRow B E k v n xs) (b : Blk w R t cs) (h : t ≠ E) : v.ownBlock ≠ some R := fun e => by
  rcases ho.2 with ⟨rfl, _⟩ | ⟨x, cap, cur, rfl, _, hx, _⟩
  · simp [Value.ownBlock] at e
  · obtain rfl : x = R := by simpa [Value.ownBlock] using e
    have b' : w.heap[x]? = _ := b
    rw [b'] at hx
    cases hx
    exact h rfl
theorem own_other {w : World} {B k n R : Nat} {t E : TypeId} {v : Value} {xs : List Value} {cs : Array Value} (ho : w.ownsRow B E k v n xs) (b : Blk w R t cs) (h : t ≠ E) (i : Nat) (u : Value) : (w.setCell ⟨R, i, none⟩ u).ownsRow B E k v n xs :=
  ownsRow_setCell_other ho (a := ⟨R, i, none⟩) (own_typ_ne ho b h) _
theorem own_rows {w : World} {B c m : Nat} {A : Option Addr} {l : List Bool} (h : w.ownsRow B 4 1 (.slice A m c) l.length (flt boL l)) : Rows boL 1 w A l := by
  obtain ⟨A', c', e, hr, _⟩ := rows_of_owns encBo h
  injection e with e1 e2 e3
  rw [e1]
  exact hr
theorem snc_same {st : Int} {l : List Bool} (h : Pl.nxt st l = st) : Pl.snc st l = l := if_neg (by simpa using h)
theorem snc_new {st : Int} {l : List Bool} (h : Pl.nxt st l ≠ st) : Pl.snc st l = [] := if_pos h
theorem in_parts {W : World} {g : Nat} {S : Pl.Sc} {st : Int} {v : Value} (h : Blk W g 78 (inA S st v)) : W.rangeAt g 0 (pnA S.n).toList ∧ W.rangeAt g 2 (pnA S.t).toList ∧ W.rangeAt g 4 (pnA S.r).toList := by
  have r := h.range
  have rs : W.rangeAt g 0 (scA S).toList := fun j u hj => by
    match j, hj with
    | 0, hj => exact r 0 _ hj
    | 1, hj => exact r 1 _ hj
    | 2, hj => exact r 2 _ hj
    | 3, hj => exact r 3 _ hj
    | 4, hj => exact r 4 _ hj
    | 5, hj => exact r 5 _ hj
  obtain ⟨a, b, c⟩ := sc_parts rs
  rw [Nat.zero_add] at b c
  exact ⟨a, b, c⟩

set_option maxRecDepth 100000 in
set_option maxHeartbeats 4000000 in
theorem plan_b (S : Pl.Sc) (st : Int) (v : Value) (g : Nat) (w : World) (hG : Blk w g 78 (inA S st v)) :
    Calls Try.prog 69 #[.pointer (some ⟨g, 0, none⟩)] w fun e w' => e = .returned (.agg (pnA (Pl.pl S st))) ∧ Below w.heap.size w w' := by
  have hB := fun q : Pl.Pn => (Below.refl w.heap.size w).alloc (Nat.le_refl _) (.cells (pnA q) 23)
  have bN := fun q : Pl.Pn => Blk.new w 23 (pnA q)
  have hG1 := hG.alloc (.cells (pnA ⟨0, 0⟩) 23)
  have q6 := hG1.cell 6
  obtain ⟨r1, r2, r3⟩ := in_parts hG1
  have hlt := hG.lt
  have hne : ¬ g = w.heap.size := by omega
  by_cases s2 : st = 2
  · have HP : Hid (Pl.pl S st = S.t) := Lib.hid (by unfold Pl.pl; rw [if_pos s2])
    subst s2
    rw [HP.out]
    clear hG hG1
    go_enter Try.func69, Try.ntmps69
    go_wp2_with (refine ldm_pn (s := S.t) r2 rfl _ rfl rfl ?_)
    exact bodyPost_ret (results_cell_row rfl _ _ _ _ _ _ _ rfl (bN S.t) Try.underlying23 rfl infoPn) rfl ⟨rfl, hB S.t⟩
  by_cases s3 : st = 3
  · have HP : Hid (Pl.pl S st = S.r) := Lib.hid (by unfold Pl.pl; rw [if_neg s2, if_pos s3])
    subst s3
    rw [HP.out]
    clear hG hG1 s2
    go_enter Try.func69, Try.ntmps69
    go_wp2_with (refine ldm_pn (s := S.r) r3 rfl _ rfl rfl ?_)
    exact bodyPost_ret (results_cell_row rfl _ _ _ _ _ _ _ rfl (bN S.r) Try.underlying23 rfl infoPn) rfl ⟨rfl, hB S.r⟩
  · have HP : Hid (Pl.pl S st = S.n) := Lib.hid (by unfold Pl.pl; rw [if_neg s2, if_neg s3])
    have t2 : (st == 2) = false := by simpa using s2
    have t3 : (st == 3) = false := by simpa using s3
    rw [HP.out]
    clear hG hG1 s2 s3
    go_enter Try.func69, Try.ntmps69
    go_wp2_with (refine ldm_pn (s := S.n) r1 rfl _ rfl rfl ?_)
    exact bodyPost_ret (results_cell_row rfl _ _ _ _ _ _ _ rfl (bN S.n) Try.underlying23 rfl infoPn) rfl ⟨rfl, hB S.n⟩

set_option maxRecDepth 100000 in
set_option maxHeartbeats 4000000 in
theorem inspect_stop (S : Pl.Sc) (v : Value) (g : Nat) (bad : Int) (w : World) (hG : Blk w g 78 (inA S 4 v)) :
    Calls Try.prog 59 #[.pointer (some ⟨g, 0, none⟩), .int .i64 bad] w fun e w' => e = .returned (.tuple #[.agg (isA 0 false), .int .i64 51]) ∧ Below w.heap.size w w' := by
  have hB := (Below.refl w.heap.size w).alloc (Nat.le_refl _) (.cells (isA 0 false) 62)
  have bN := Blk.new w 62 (isA 0 false)
  have hlt := hG.lt
  have hne : ¬ g = w.heap.size := by omega
  have q6 := (hG.alloc (.cells (isA 0 false) 62)).cell 6
  clear hG
  go_enter Try.func59, Try.ntmps59
  go_wp2
  exact bodyPost_ret (results_cell_tmp' rfl _ _ _ _ _ _ _ rfl bN Try.underlying62 rfl infoIs) rfl ⟨rfl, hB⟩

set_option maxRecDepth 100000 in
set_option maxHeartbeats 4000000 in
theorem inspect_err (S : Pl.Sc) (st : Int) (hs : st ≠ 4) (v : Value) (g : Nat) (bad E : Int) (hE : Pl.acE (Pl.pl S st) bad = E) (hE0 : E ≠ 0) (w : World) (hG : Blk w g 78 (inA S st v)) :
    Calls Try.prog 59 #[.pointer (some ⟨g, 0, none⟩), .int .i64 bad] w fun e w' => e = .returned (.tuple #[.agg (isA 0 false), .int .i64 E]) ∧ Below w.heap.size w w' := by
  have hB := (Below.refl w.heap.size w).alloc (Nat.le_refl _) (.cells (isA 0 false) 62)
  have bN := Blk.new w 62 (isA 0 false)
  have hlt := hG.lt
  have hne : ¬ g = w.heap.size := by omega
  have hG1 := hG.alloc (.cells (isA 0 false) 62)
  have q6 := hG1.cell 6
  have s4 : (st == 4) = false := by simpa using hs
  have e0 : (E != 0) = true := by simpa using hE0
  have HP := Lib.hid (plan_b S st v g _ hG1)
  have HA := Lib.hid (fun w' : World => accepted_b (Pl.pl S st) bad w')
  rw [hE] at HA
  generalize Pl.acV (Pl.pl S st) bad = b at *
  generalize Pl.pl S st = P at *
  clear hG hG1 hs hE hE0
  go_enter Try.func59, Try.ntmps59
  go_wp2_with fail
  refine HP.out.mono ?_
  rintro e w1 ⟨rfl, hb1⟩
  have hB1 := hB.trans (hb1.mono hB.size)
  have bN1 := bN.below hb1 bN.lt
  go_wp2_with fail
  refine (HA.out _).mono ?_
  rintro e w2 ⟨rfl, hb2⟩
  have hB2 := hB1.trans (hb2.mono hB1.size)
  have bN2 := bN1.below hb2 bN1.lt
  have c0 := bN2.cell 0
  have c1 := bN2.cell 1
  have f0 := bN2.frozen 0
  have f1 := bN2.frozen 1
  clear hb1 hb2 hB1 bN1 bN HP HA
  go_wp2
  have bN3 := (bN2.set_ 0 (.int .i64 0)).set_ 1 (.bool false)
  have hB3 := (hB2.setCell (p := ⟨w.heap.size, 0, none⟩) (Nat.le_refl _) (.int .i64 0)).setCell (p := ⟨w.heap.size, 1, none⟩) (Nat.le_refl _) (.bool false)
  exact bodyPost_ret (v := .tuple #[.agg (isA 0 false), .int .i64 E]) (results_cell_tmp' (q := 5) rfl _ _ _ _ _ _ _ rfl bN3 Try.underlying62 rfl infoIs) rfl ⟨rfl, hB3⟩

set_option maxRecDepth 100000 in
set_option maxHeartbeats 8000000 in
theorem inspect_ok (S : Pl.Sc) (st : Int) (hs : st ≠ 4) (v : Value) (g : Nat) (l : List Bool) (n : Nat) (hn : l.length = n) (hn2 : n < 200) (bad : Int) (hE : Pl.acE (Pl.pl S st) bad = 0) (b : Bool) (hb : Pl.acV (Pl.pl S st) bad = b) (w : World) (hG : Blk w g 78 (inA S st v)) (ho : w.ownsRow (g + 1) 4 1 v n (flt boL l)) :
    Calls Try.prog 59 #[.pointer (some ⟨g, 0, none⟩), .int .i64 bad] w fun e w' => e = .returned (.tuple #[.agg (isA st b), .int .i64 0]) ∧ ∃ v', Blk w' g 78 (inA S (Pl.nxt st (l ++ [b])) v') ∧ w'.ownsRow (g + 1) 4 1 v' (Pl.snc st (l ++ [b])).length (flt boL (Pl.snc st (l ++ [b]))) ∧ FrT g w w' := by
  have hlt := hG.lt
  have hB := (Below.refl w.heap.size w).alloc (Nat.le_refl _) (.cells (isA 0 false) 62)
  have bN := Blk.new w 62 (isA 0 false)
  have hne : ¬ g = w.heap.size := by omega
  have hG1 := hG.alloc (.cells (isA 0 false) 62)
  have q6 := hG1.cell 6
  have s4 : (st == 4) = false := by simpa using hs
  have HP := Lib.hid (plan_b S st v g _ hG1)
  have HA := Lib.hid (fun w' : World => accepted_b (Pl.pl S st) bad w')
  rw [hE, hb] at HA
  generalize Pl.pl S st = P at *
  have HO := Lib.hid ho
  have HN := Lib.hid hn
  obtain ⟨i0, hi0, hz0, hn0, hy0⟩ := info_parts info4f
  clear hG hs hE hb ho
  go_enter Try.func59, Try.ntmps59
  go_wp2_with fail
  refine HP.out.mono ?_
  rintro e w1 ⟨rfl, hb1⟩
  have hB1 := hB.trans (hb1.mono hB.size)
  have bN1 := bN.below hb1 bN.lt
  have hG2 := hG1.below hb1 hG1.lt
  go_wp2_with fail
  refine (HA.out _).mono ?_
  rintro e w2 ⟨rfl, hb2⟩
  have hB2 := hB1.trans (hb2.mono hB1.size)
  have bN2 := bN1.below hb2 bN1.lt
  have hG3 := hG2.below hb2 hG2.lt
  have hN2 := bN2.lt
  -- the lot's own block
  have hB3 := hB2.alloc hB2.size (.cells (isA st b) 62)
  have bN3 := bN2.alloc (.cells (isA st b) 62)
  have hG4 := hG3.alloc (.cells (isA st b) 62)
  have bM3 := Blk.new w2 62 (isA st b)
  have q6' := hG3.cell 6
  have hG3lt := hG3.lt
  have hne3 : ¬ g = w2.heap.size := by omega
  have hB4 := hB3.alloc hB3.size (.cells (boL b).toArray 4)
  have bN4 := bN3.alloc (.cells (boL b).toArray 4)
  have bM4 := bM3.alloc (.cells (boL b).toArray 4)
  have hG5 := hG4.alloc (.cells (boL b).toArray 4)
  have ho4 := (own_keep HO.out (hB3)).alloc (.cells (boL b).toArray 4)
  have HO4 := Lib.hid ho4
  have q7 := hG4.cell 7
  have hs2 := hB2.size
  clear hb1 hb2 hB1 hB bN1 bN hG2 hG1 HP HA ho4
  have hnew : (w2.alloc (.cells (isA st b) 62)).heap.size = w2.heap.size + 1 := by simp
  go_wp2_with (at_builtin; refine wpList_append_own _ rfl _ _ 55 rfl (g + 1) 4 i0 _ 1 1 Try.underlying55 hi0 hz0 hn0 hy0 rfl (by decide) _ _ _ rfl HO4.out ⟨w2.heap.size + 1, 0, none⟩ 1 1 (boL b) rfl rfl (new_cells' _ _ _ hnew) (encBo.one b) (by unfold maxLen; omega) (by omega) (by simp; omega) ?_; intro v' w5 hown' hgrow _; have hG6 := hG5.grew HO4.out hgrow (Nat.lt_succ_self g); have f7 := hG6.frozen 7; have q7' := hG6.cell 7; obtain ⟨A5, c5, hv5, hr5, hlc5, hz5, ho5⟩ := own_snoc HN.out hown'; subst hv5; have HR5 := Lib.hid hr5; have HO5 := Lib.hid ho5; have HZ5 := Lib.hid hz5; have HGR := Lib.hid hgrow; clear hown' hr5 ho5 hz5 hgrow)
  have hG7 : Blk (w5.setCell ⟨g, 7, none⟩ (.slice A5 (n + 1) c5)) g 78 (inA S st (.slice A5 (n + 1) c5)) := hG6.set_ 7 _
  have hgB4 : g ≤ w.heap.size := by omega
  have hF5 : FrT g w w5 := (FrT.of hB4 hgB4).trans (FrT.grown HO4.out HGR.out (Nat.le_succ g) (by simp; omega))
  have hF7 := hF5.trans (FrT.set hG6 7 (.slice A5 (n + 1) c5))
  have ho7 := own_far HO5.out (Nat.lt_succ_self g) 7 (.slice A5 (n + 1) c5)
  have hFM : FrT g ((w2.alloc (.cells (isA st b) 62)).alloc (.cells (boL b).toArray 4)) w5 := FrT.grown HO4.out HGR.out (Nat.le_succ g) (by simp; omega)
  have hFM7 := hFM.trans (FrT.set hG6 7 (.slice A5 (n + 1) c5))
  have bM7 := hFM7.blk bM4 (by decide) (by decide)
  have bN7 := hFM7.blk bN4 (by decide) (by decide)
  have hMR : w.heap.size ≤ w2.heap.size := hs2
  have hRM : ¬ w.heap.size = w2.heap.size := by omega
  have hMR2 : ¬ w2.heap.size = w.heap.size := by omega
  have hMg : ¬ w2.heap.size = g := by omega
  have hRg : ¬ w.heap.size = g := by omega
  clear hF5 hFM hFM7 bM4 bN4 hB4 hB3 bN3 bM3 hG5 hG4 hG3 q7 q6' q7' f7 hnew hB2 bN2 hG6 q6 HGR HO4
  generalize w5.setCell ⟨g, 7, none⟩ (.slice A5 (n + 1) c5) = w6 at *
  have HNX := Lib.hid (next_b S st g A5 (l ++ [b]) c5 (n + 1) (by simp [HN.out]) (by omega) hlc5 HZ5.out w6 hG7 (own_rows ho7))
  have HS1 := Lib.hid (fun h => snc_same (st := st) (l := l ++ [b]) h)
  have HS2 := Lib.hid (fun h => snc_new (st := st) (l := l ++ [b]) h)
  generalize hnx : Pl.nxt st (l ++ [b]) = NX at *
  have HNXE := Lib.hid hnx
  clear hnx
  refine HNX.out.mono ?_
  rintro e w7 ⟨rfl, hb7⟩
  have hG8 := hG7.below hb7 hG7.lt
  have ho8 := own_keep ho7 hb7
  have bM8 := bM7.below hb7 bM7.lt
  have bN8 := bN7.below hb7 bN7.lt
  have hF8 := hF7.trans (FrT.of hb7 (by have := hG7.lt; omega))
  have HO8 := Lib.hid ho8
  clear hG7 ho7 bM7 bN7 hF7 hb7 HNX HO5 HR5 HZ5 ho8
  have q6 := hG8.cell 6
  have f6 := hG8.frozen 6
  have f7 := hG8.frozen 7
  have q7 := hG8.cell 7
  have m0 := bM8.cell 0
  have m1 := bM8.cell 1
  have r0 := bN8.cell 0
  have r1 := bN8.cell 1
  have fr0 := bN8.frozen 0
  have fr1 := bN8.frozen 1
  by_cases hc : NX = st
  · subst hc
    have HS := Lib.hid (HS1.out rfl)
    have bN9 := (bN8.set_ 0 (.int .i64 NX)).set_ 1 (.bool b)
    have hG9 := (hG8.far (p := ⟨w.heap.size, 0, none⟩) hne (.int .i64 NX)).far (p := ⟨w.heap.size, 1, none⟩) hne (.bool b)
    have hO9 := own_other (own_other HO8.out bN8 (by decide) 0 (.int .i64 NX)) (bN8.set_ 0 (.int .i64 NX)) (by decide) 1 (.bool b)
    have hF9 := (hF8.setNew (R := w.heap.size) (Nat.le_refl _) (by omega) 0 (.int .i64 NX)).setNew (R := w.heap.size) (Nat.le_refl _) (by omega) 1 (.bool b)
    have HG9 := Lib.hid hG9
    have HO9 := Lib.hid hO9
    clear hG9 hO9 hG8 HO8
    go_wp2
    exact bodyPost_ret (v := .tuple #[.agg (isA NX b), .int .i64 0]) (results_cell_tmp' (q := 5) rfl _ _ _ _ _ _ _ rfl bN9 Try.underlying62 rfl infoIs) rfl ⟨rfl, _, by rw [HNXE.out]; exact HG9.out, by rw [HS.out]; exact HO9.out, hF9⟩
  · have hc1 : (NX != st) = true := by simpa using hc
    have HS := Lib.hid (HS2.out hc)
    clear hc
    have hG9 := (hG8.set_ 6 (.int .i64 NX)).set_ 7 (.slice none 0 0)
    have bNa := (bN8.far (p := ⟨g, 6, none⟩) hRg (.int .i64 NX)).far (p := ⟨g, 7, none⟩) hRg (.slice none 0 0)
    have hFa := (hF8.trans (FrT.set hG8 6 (.int .i64 NX))).trans (FrT.set (hG8.set_ 6 (.int .i64 NX)) 7 (.slice none 0 0))
    have bN9 := (bNa.set_ 0 (.int .i64 st)).set_ 1 (.bool b)
    have hGa := (hG9.far (p := ⟨w.heap.size, 0, none⟩) hne (.int .i64 st)).far (p := ⟨w.heap.size, 1, none⟩) hne (.bool b)
    have hF9 := (hFa.setNew (R := w.heap.size) (Nat.le_refl _) (by omega) 0 (.int .i64 st)).setNew (R := w.heap.size) (Nat.le_refl _) (by omega) 1 (.bool b)
    have HG9 := Lib.hid hGa
    clear hG9 bNa hFa hGa hG8 HO8
    go_wp2
    exact bodyPost_ret (v := .tuple #[.agg (isA st b), .int .i64 0]) (results_cell_tmp' (q := 5) rfl _ _ _ _ _ _ _ rfl bN9 Try.underlying62 rfl infoIs) rfl ⟨rfl, .slice none 0 0, by rw [HNXE.out]; exact HG9.out, by rw [HS.out]; exact World.ownsRow_nil _ _ _ _, hF9⟩
end Go.Proofs.Ytfkhlglagokodaa
