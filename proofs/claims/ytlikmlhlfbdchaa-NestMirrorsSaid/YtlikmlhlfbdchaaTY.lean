/- Merged: T4 T5 T6 T7 T8 T9 T10. -/
import Derived.Test.YtlikmlhlfbdchaaTX
import Derived.Deep.LoopGhost
/- nest: the closure of Drop; Free and Drop of the program. -/
namespace Go.Proofs.Ytlikmlhlfbdchaa
open Go.RowKit Go.Shelf
set_option linter.unusedVariables false
set_option maxRecDepth 100000 in
set_option maxHeartbeats 4000000 in
theorem Free_b (b : Ne.Bo) (A B C : Option Addr) (ps : List Ne.Pa) (pl : List Ne.Pc) (f fc m c' n c'' : Nat) (hf : b.fs.length = f) (hm : ps.length = m) (hn : pl.length = n) (I E : Int) (hE : Ne.ckA b ps pl = (I, E)) (p : Ne.Pc) (r : Bool) (hr : (decide (E = 0) && Ne.frB b ps pl p) = r)
    (w : World) (hF : Rows Ne.rcL 4 w A b.fs) (hP : Ne.PaM w B ps) (hL : Rows Ne.pcL 4 w C pl) :
    Calls Try.prog 38 #[.agg (boW b A f fc), .slice B m c', .slice C n c'', .agg (Ne.pcL p).toArray] w fun e w' => e = .returned (.tuple #[.bool r, .int .i64 E]) ∧ Below w.heap.size w w' := by
  have hB0 := (Below.refl w.heap.size w).alloc (Nat.le_refl _) (.cells (boW b A f fc) 33)
  have hB := hB0.alloc hB0.size (.cells (Ne.pcL p).toArray 40)
  have bB := (Blk.new w 33 (boW b A f fc)).alloc (.cells (Ne.pcL p).toArray 40)
  have bP := Blk.new (w.alloc (.cells (boW b A f fc) 33)) 40 (Ne.pcL p).toArray
  rw [World.size_alloc] at bP
  have hrB := bB.range
  have HC := Lib.hid (fun W h h' h'' => lay_b b A B C ps pl f fc m c' n c'' hf hm hn I E hE W h h' h'')
  have HF := Lib.hid (hF.below hB)
  have HP := Lib.hid (hP.below hB)
  have HL := Lib.hid (hL.below hB)
  by_cases h0 : E = 0
  · subst h0
    obtain ⟨v1, h2, k1, k2, k3, k4, _⟩ := Ne.ckA_ok (b := b) (ps := ps) (pl := pl) (by rw [hE])
    obtain ⟨hvb, hvp⟩ := Ne.vAll_and v1
    rw [hn] at h2 k1 k2
    have hr' : Ne.frB b ps pl p = r := by rw [← hr]; simp
    have HIF := Lib.hid (fun xs PA pc (hx : xs.length = n) (hpc : n ≤ pc) (hpl : ∀ j, j < n → (xs.getD j Ne.zi).p = pl.getD j Ne.zc) W h1 h2' h3 => isfree_b b A B ps pl xs PA f fc m c' n pc hf hm hn hx hpc hvb hvp h2 hpl (fun j hj => Ne.rg_ls (by have := k1 j hj; unfold Ne.rgI at this; exact this)) (fun j hj => by have := k2 j hj; unfold Ne.onI at this; exact Ne.onBb_iff.1 this) p r hr' W h1 h2' h3)
    clear hE hr hF hP hL hf hm hn v1 k1 k2 k3 k4 hvb hvp hr'
    go_enter Try.func38, Try.ntmps38
    go_wp2_with (refine ldm_bo hrB (by rfl) _ rfl rfl (Hid.out ?_))
    refine Lib.hid ?_
    go_wp2_with fail
    refine (HC.out _ HF.out HP.out HL.out).mono ?_
    rintro e w1 ⟨v, rfl, hb1, hv, _⟩
    obtain ⟨PA, pc, xs, rfl, hpc, hxn, hX, hpl⟩ := hv (by first | rfl | trivial)
    have HX := Lib.hid hX
    have HPL := Lib.hid hpl
    have hB1 := hB.trans (hb1.mono hB.size)
    have hrB1 := (bB.below hb1 bB.lt).range
    have hrP1 := (bP.below hb1 bP.lt).range
    clear hX hpl hv hrB
    go_wp2_with (first | refine ldm_bo hrB1 (by rfl) _ rfl rfl ?_ | refine ldm_pc hrP1 (by rfl) _ rfl rfl (Hid.out ?_))
    refine Lib.hid ?_
    go_wp2_with fail
    refine (HIF.out xs PA pc hxn hpc HPL.out _ (HF.out.below hb1) (HP.out.below hb1) HX.out).mono ?_
    rintro e w2 ⟨rfl, hb2⟩
    go_wp2
    go_ret2
    exact ⟨rfl, hB1.trans (hb2.mono hB1.size)⟩
  · have hne : (E == 0) = false := by simp; exact h0
    have HV : Hid (r = false) := Lib.hid (by rw [← hr, decide_eq_false h0]; rfl)
    clear hE hr hF hP hL hf hm hn bP
    go_enter Try.func38, Try.ntmps38
    go_wp2_with (refine ldm_bo hrB (by rfl) _ rfl rfl (Hid.out ?_))
    refine Lib.hid ?_
    go_wp2_with fail
    refine (HC.out _ HF.out HP.out HL.out).mono ?_
    rintro e w1 ⟨v, rfl, hb1, hv, _⟩
    clear hv
    go_wp2
    go_ret2
    exact ⟨by rw [HV.out]; rfl, hB.trans (hb1.mono hB.size)⟩
end Go.Proofs.Ytlikmlhlfbdchaa
/- nest: the closure of Drop; Drop of the program. -/
namespace Go.Proofs.Ytlikmlhlfbdchaa
open Go.RowKit Go.Shelf
set_option linter.unusedVariables false
theorem pc_all (k : Ne.Pc) : (Ne.pcL k).toArray.all (·.oneCell') = true := by simp [Value.oneCell']
theorem results_cell_tmp2 {P : Program} {fn : Func} {p q r : Tmp} {ty : TypeId} (h : fn.results = #[.cell p ty, .tmp q, .tmp r]) (tmps : Array Value) (w : World) (g : Nat) (t : TypeId) (cs : Array Value) (fr : Nat × Nat) (d : TypeDesc)
    (hp : tmps.getD p undef = .pointer (some ⟨g, 0, none⟩)) (hg : w.heap[g]? = some (.cells cs t fr))
    (hu : P.underlying ty = some d) (hd : (match d with | .struct _ | .array _ _ => true | _ => false) = true) (hi : (P.info? ty).map (·.size) = some cs.size) :
    (results fn tmps).run P w = .ok (.tuple #[.agg cs, tmps.getD q undef, tmps.getD r undef]) w := by
  have hp' : tmps[p]?.getD undef = .pointer (some ⟨g, 0, none⟩) := by simpa using hp
  simp [results, h, hp', asAddr, run_loadVar_row w g t ty cs fr d hg hu hd hi]
section
variable {ops : Array Oper} {rest : List Oper} {o : Oper} {a : Act} {w : World} {Q : Exit → Act → World → Prop}
/-- a whole place is stored -/
theorem st_pc {old : Array Value} {k : Ne.Pc} {g : Nat} {t : TypeId} (b : Blk w g t old) (hs : old.size = 4) (hgd : o.guard = none) (x y : Operand) (ho : o.op = .store 40 x y)
    (hx : a.eval x = .pointer (some ⟨g, 0, none⟩)) (hy : a.eval y = .agg (Ne.pcL k).toArray)
    (h : ∀ w', Blk w' g t (Ne.pcL k).toArray → Only g w w' → wpList Try.prog ops Q rest (a.put o.dst undef) w') : wpList Try.prog ops Q (o :: rest) a w :=
  wpList_store_row hgd 40 x y ho g (Ne.pcL k).toArray hx hy t old b infoPc hs (pc_all k) (h _ (blk_setRow' b) (Only.setRow g w (Ne.pcL k).toArray))
end
namespace Ne
/-- the boxes that the closure of Drop reads: board, parts, pieces, place -/
structure DrEnv (b : Bo) (A : Option Addr) (f fc : Nat) (B : Option Addr) (m c' : Nat) (PA : Option Addr) (n pc : Nat) (p : Pc) (gp gb gt gx : Nat) (W : World) : Prop where
  bo : Blk W gb 33 (boW b A f fc)
  pt : Blk W gt 34 #[.slice B m c']
  px : Blk W gx 86 #[.slice PA n pc]
  pl : Blk W gp 40 (pcL p).toArray
theorem DrEnv.below {b : Bo} {A B PA : Option Addr} {f fc m c' n pc : Nat} {p : Pc} {gp gb gt gx : Nat} {W W' : World} (h : DrEnv b A f fc B m c' PA n pc p gp gb gt gx W) (hb : Below W.heap.size W W') : DrEnv b A f fc B m c' PA n pc p gp gb gt gx W' :=
  ⟨h.bo.below hb h.bo.lt, h.pt.below hb h.pt.lt, h.px.below hb h.px.lt, h.pl.below hb h.pl.lt⟩
end Ne
set_option maxRecDepth 100000 in
set_option maxHeartbeats 4000000 in
theorem drop1_b (b : Ne.Bo) (A B PA : Option Addr) (f fc m c' n pc : Nat) (ps : List Ne.Pa) (xs : List Ne.Pi) (p : Ne.Pc) (gp gb gt gx : Nat) (i : Nat) (hi : i ≤ 500) (r : Bool)
    (H : Hid (∀ W, Rows Ne.rcL 4 W A b.fs → Ne.PaM W B ps → Ne.PcsM ps W PA xs → Calls Try.prog 76 #[.agg (boW b A f fc), .slice B m c', .slice PA n pc, .agg (Ne.pcL (Ne.atY p i)).toArray] W fun e w' => e = .returned (.bool r) ∧ Below W.heap.size W w'))
    (w : World) (hF : Rows Ne.rcL 4 w A b.fs) (hP : Ne.PaM w B ps) (hX : Ne.PcsM ps w PA xs) (hE : Ne.DrEnv b A f fc B m c' PA n pc p gp gb gt gx w) :
    Calls Try.prog 79 #[.int .i64 i, .pointer (some ⟨gp, 0, none⟩), .pointer (some ⟨gb, 0, none⟩), .pointer (some ⟨gt, 0, none⟩), .pointer (some ⟨gx, 0, none⟩)] w fun e w' => e = .returned (.bool r) ∧ Below w.heap.size w w' := by
  have hrp := hE.pl.range
  have hB := (Below.refl w.heap.size w).alloc (Nat.le_refl _) (.cells #[.int .i64 p.p, .int .i64 p.x, .int .i64 i, .bool p.t] 40)
  have bN : Blk (w.alloc (.cells #[.int .i64 p.p, .int .i64 p.x, .int .i64 i, .bool p.t] 40)) w.heap.size 40 (Ne.pcL (Ne.atY p i)).toArray := Blk.new w _ _
  have hE2 := hE.below hB
  have hrN := bN.range
  have hrb := hE2.bo.range
  have t0 := hE2.pt.cell 0
  have x0 := hE2.px.cell 0
  simp only [List.getElem?_toArray, List.getElem?_cons_zero] at t0 x0
  have HF := Lib.hid (hF.below hB)
  have HP := Lib.hid (hP.below hB)
  have HX := Lib.hid (hX.below hB)
  clear hF hP hX hE hE2 bN
  go_enter Try.func79, Try.ntmps79
  go_wp2_with (first | refine ldm_bo hrb (by rfl) _ rfl rfl ?_ | refine ldm_pc hrp (by rfl) _ rfl rfl ?_ | refine ldm_pc hrN (by rfl) _ rfl rfl (Hid.out ?_))
  refine Lib.hid ?_
  go_wp2_with fail
  refine (H.out _ HF.out HP.out HX.out).mono ?_
  rintro e w1 ⟨rfl, hb⟩
  go_wp2
  go_ret
  exact ⟨rfl, hB.trans (hb.mono hB.size)⟩
end Go.Proofs.Ytlikmlhlfbdchaa
/- nest: Free and Drop of the document. -/
namespace Go.Proofs.Ytlikmlhlfbdchaa
open Go.RowKit Go.Shelf
set_option linter.unusedVariables false
set_option maxRecDepth 100000 in
set_option maxHeartbeats 4000000 in
theorem rFree_b (b : Ne.Bo) (A B C : Option Addr) (ps : List Ne.Pa) (pl : List Ne.Pc) (f fc m c' n c'' : Nat) (hf : b.fs.length = f) (hm : ps.length = m) (hn : pl.length = n) (hfM : f ≤ maxLen) (hmM : m ≤ maxLen) (hcap : n ≤ c'') (I E : Int) (hE : Ne.ckA b ps pl = (I, E)) (p : Ne.Pc) (r : Bool) (hr : (decide (E = 0) && Ne.frB b ps pl p) = r)
    (w : World) (hF : Rows Ne.rcL 4 w A b.fs) (hP : Ne.PaM w B ps) (hL : Rows Ne.pcL 4 w C pl) :
    Calls Try.prog 39 #[.agg (boW b A f fc), .slice B m c', .slice C n c'', .agg (Ne.pcL p).toArray] w fun e w' => e = .returned (.tuple #[.bool r, .int .i64 E]) ∧ Below w.heap.size w w' := by
  have hB0 := (Below.refl w.heap.size w).alloc (Nat.le_refl _) (.cells (boW b A f fc) 33)
  have hB := hB0.alloc hB0.size (.cells (Ne.pcL p).toArray 40)
  have bB := (Blk.new w 33 (boW b A f fc)).alloc (.cells (Ne.pcL p).toArray 40)
  have bP := Blk.new (w.alloc (.cells (boW b A f fc) 33)) 40 (Ne.pcL p).toArray
  rw [World.size_alloc] at bP
  have hrB := bB.range
  have HC := Lib.hid (fun W h h' h'' => rCheck_b b A B C ps pl f fc m c' n c'' hf hm hn hfM hmM hcap I E hE W h h' h'')
  have HF := Lib.hid (hF.below hB)
  have HP := Lib.hid (hP.below hB)
  have HL := Lib.hid (hL.below hB)
  by_cases h0 : E = 0
  · subst h0
    obtain ⟨v1, h2, k1, k2, k3, k4, _⟩ := Ne.ckA_ok (b := b) (ps := ps) (pl := pl) (by rw [hE])
    obtain ⟨hvb, hvp⟩ := Ne.vAll_and v1
    rw [hn] at h2 k1 k2
    have hr' : Ne.frB b ps pl p = r := by rw [← hr]; simp
    have HIF := Lib.hid (fun W h1 h2' h3 => rfree_b b A B C ps pl f fc m c' n c'' hf hm hn hvb hvp h2 (fun j hj => Ne.rg_ls (by have := k1 j hj; unfold Ne.rgI at this; exact this)) p r hr' W h1 h2' h3)
    clear hE hr hF hP hL hf hm hn v1 k1 k2 k3 k4 hvb hvp hr'
    go_enter Try.func39, Try.ntmps39
    go_wp2_with (refine ldm_bo hrB (by rfl) _ rfl rfl (Hid.out ?_))
    refine Lib.hid ?_
    go_wp2_with fail
    refine (HC.out _ HF.out HP.out HL.out).mono ?_
    rintro e w1 ⟨rfl, hb1⟩
    have hB1 := hB.trans (hb1.mono hB.size)
    have hrB1 := (bB.below hb1 bB.lt).range
    have hrP1 := (bP.below hb1 bP.lt).range
    clear hrB
    go_wp2_with (first | refine ldm_bo hrB1 (by rfl) _ rfl rfl ?_ | refine ldm_pc hrP1 (by rfl) _ rfl rfl (Hid.out ?_))
    refine Lib.hid ?_
    go_wp2_with fail
    refine (HIF.out _ (HF.out.below hb1) (HP.out.below hb1) (HL.out.below hb1)).mono ?_
    rintro e w2 ⟨rfl, hb2⟩
    go_wp2
    go_ret2
    exact ⟨rfl, hB1.trans (hb2.mono hB1.size)⟩
  · have hne : (E == 0) = false := by simp; exact h0
    have HV : Hid (r = false) := Lib.hid (by rw [← hr, decide_eq_false h0]; rfl)
    clear hE hr hF hP hL hf hm hn bP
    go_enter Try.func39, Try.ntmps39
    go_wp2_with (refine ldm_bo hrB (by rfl) _ rfl rfl (Hid.out ?_))
    refine Lib.hid ?_
    go_wp2_with fail
    refine (HC.out _ HF.out HP.out HL.out).mono ?_
    rintro e w1 ⟨rfl, hb1⟩
    go_wp2
    go_ret2
    exact ⟨by rw [HV.out]; rfl, hB.trans (hb1.mono hB.size)⟩
namespace Ne
theorem drE_bad {b : Bo} {ps : List Pa} {pl : List Pc} {p : Pc} {I E : Int} (hE : ckA b ps pl = (I, E)) (h : E ≠ 0) : drE b ps pl p = E ∧ drB b ps pl p = false ∧ drV b ps pl p = zc := by
  have h2 : drB b ps pl p = false := by unfold drB; rw [hE, decide_eq_false h]; rfl
  refine ⟨by unfold drE; rw [hE, if_neg h], h2, ?_⟩
  unfold drV; rw [h2, if_neg (by simp)]
theorem drE_arg {b : Bo} {ps : List Pa} {pl : List Pc} {p : Pc} {I : Int} (hE : ckA b ps pl = (I, 0)) (h : ¬ (0 ≤ p.y ∧ p.y ≤ 500)) : drE b ps pl p = 2 ∧ drB b ps pl p = false ∧ drV b ps pl p = zc := by
  have h2 : drB b ps pl p = false := by unfold drB; rw [decide_eq_false h]; simp
  refine ⟨by unfold drE; rw [hE, if_pos rfl, if_neg h], h2, ?_⟩
  unfold drV; rw [h2, if_neg (by simp)]
theorem drE_in {b : Bo} {ps : List Pa} {pl : List Pc} {p : Pc} {I : Int} (hE : ckA b ps pl = (I, 0)) (h : 0 ≤ p.y ∧ p.y ≤ 500) {r : Bool} (hr : frB b ps pl p = r) : drE b ps pl p = 0 ∧ drB b ps pl p = r ∧ drV b ps pl p = if r = true then atY p (flN (frY b ps pl p) p.y.toNat : Nat) else zc := by
  have h2 : drB b ps pl p = r := by unfold drB; rw [hE, decide_eq_true h, hr]; simp
  refine ⟨by unfold drE; rw [hE, if_pos rfl, if_pos h], h2, ?_⟩
  unfold drV; rw [h2]
theorem atY_self (p : Pc) {y : Nat} (h : p.y = y) : atY p (y : Int) = p := by unfold atY; rw [← h]
end Ne
end Go.Proofs.Ytlikmlhlfbdchaa
/- nest: Drop of the program. -/
namespace Go.Proofs.Ytlikmlhlfbdchaa
open Go.RowKit Go.Shelf
set_option linter.unusedVariables false
set_option maxRecDepth 100000 in
set_option maxHeartbeats 8000000 in
theorem Drop_b (b : Ne.Bo) (A B C : Option Addr) (ps : List Ne.Pa) (pl : List Ne.Pc) (f fc m c' n c'' : Nat) (hf : b.fs.length = f) (hm : ps.length = m) (hn : pl.length = n) (I E0 : Int) (hE : Ne.ckA b ps pl = (I, E0)) (p : Ne.Pc) (E : Int) (hEE : Ne.drE b ps pl p = E) (D : Bool) (hD : Ne.drB b ps pl p = D) (V : Ne.Pc) (hV : Ne.drV b ps pl p = V)
    (w : World) (hF : Rows Ne.rcL 4 w A b.fs) (hP : Ne.PaM w B ps) (hL : Rows Ne.pcL 4 w C pl) :
    Calls Try.prog 40 #[.agg (boW b A f fc), .slice B m c', .slice C n c'', .agg (Ne.pcL p).toArray] w fun e w' => e = .returned (.tuple #[.agg (Ne.pcL V).toArray, .bool D, .int .i64 E]) ∧ Below w.heap.size w w' := by
  have hB1 := (Below.refl w.heap.size w).alloc (Nat.le_refl _) (.cells (boW b A f fc) 33)
  have hB2 := hB1.alloc hB1.size (.cells #[.slice B m c'] 34)
  have hB3 := hB2.alloc hB2.size (.cells (Ne.pcL p).toArray 40)
  have hB := hB3.alloc hB3.size (.cells (Ne.pcL Ne.zc).toArray 40)
  have bB := (((Blk.new w 33 (boW b A f fc)).alloc (.cells #[.slice B m c'] 34)).alloc (.cells (Ne.pcL p).toArray 40)).alloc (.cells (Ne.pcL Ne.zc).toArray 40)
  have bT := ((Blk.new (w.alloc (.cells (boW b A f fc) 33)) 34 #[.slice B m c']).alloc (.cells (Ne.pcL p).toArray 40)).alloc (.cells (Ne.pcL Ne.zc).toArray 40)
  have bP := (Blk.new ((w.alloc (.cells (boW b A f fc) 33)).alloc (.cells #[.slice B m c'] 34)) 40 (Ne.pcL p).toArray).alloc (.cells (Ne.pcL Ne.zc).toArray 40)
  have bR := Blk.new (((w.alloc (.cells (boW b A f fc) 33)).alloc (.cells #[.slice B m c'] 34)).alloc (.cells (Ne.pcL p).toArray 40)) 40 (Ne.pcL Ne.zc).toArray
  rw [World.size_alloc] at bT bP bR
  rw [World.size_alloc] at bP bR
  rw [World.size_alloc] at bR
  have hrB := bB.range
  have t0 := bT.cell 0
  simp only [List.getElem?_toArray, List.getElem?_cons_zero] at t0
  have HC := Lib.hid (fun W h h' h'' => lay_b b A B C ps pl f fc m c' n c'' hf hm hn I E0 hE W h h' h'')
  have HF := Lib.hid (hF.below hB)
  have HP := Lib.hid (hP.below hB)
  have HL := Lib.hid (hL.below hB)
  have HBAD := Lib.hid (fun (h : E0 ≠ 0) => Ne.drE_bad (p := p) hE h)
  have HEE := Lib.hid hEE
  have HDD := Lib.hid hD
  have HVV := Lib.hid hV
  clear hF hP hL hEE hD hV
  go_enter Try.func40, Try.ntmps40
  go_wp2_with (refine ldm_bo hrB (by rfl) _ rfl rfl (Hid.out ?_))
  refine Lib.hid ?_
  go_wp2_with fail
  refine (HC.out _ HF.out HP.out HL.out).mono ?_
  rintro e w1 ⟨_, rfl, hb1, hv, ag, an, ac, rfl⟩
  have HVX := Lib.hid hv
  have hW1 := hB.trans (hb1.mono hB.size)
  have hW2 := hW1.alloc hW1.size (.cells #[.slice ag an ac] 86)
  have hba := (Below.refl w1.heap.size w1).alloc (Nat.le_refl _) (.cells #[.slice ag an ac] 86)
  have hb2 := hb1.alloc hb1.size (.cells #[.slice ag an ac] 86)
  have bR2 := bR.below hb2 bR.lt
  have bP2 := bP.below hb2 bP.lt
  have bB2 := bB.below hb2 bB.lt
  have bT2 := bT.below hb2 bT.lt
  have bX2 := Blk.new w1 86 #[.slice ag an ac]
  have HF2 := Lib.hid (HF.out.below hb2)
  have HP2 := Lib.hid (HP.out.below hb2)
  have y2 := bP2.cell 2
  simp only [List.getElem?_toArray, List.getElem?_cons_zero, List.getElem?_cons_succ] at y2
  have HX2 := Lib.hid (fun PA xs (h : Ne.PcsM ps w1 PA xs) => h.below hba)
  clear hrB hv bB bT bP bR t0 HF HP HL hb1 hb2 hba
  by_cases h0 : E0 = 0
  · subst h0
    by_cases hy : 0 ≤ p.y ∧ p.y ≤ 500
    · obtain ⟨PA, pc, xs, hve, hpc, hxn, hX, hpl⟩ := HVX.out (by first | rfl | trivial)
      injection hve with e1 e2 e3
      obtain rfl : PA = ag := e1.symm
      obtain rfl : n = an := e2.symm
      obtain rfl : pc = ac := e3.symm
      have HXX := Lib.hid (HX2.out PA xs hX)
      obtain ⟨yn, hyn⟩ : ∃ yn : Nat, p.y = yn := ⟨p.y.toNat, by omega⟩
      obtain ⟨v1, h2, k1, k2, k3, k4, _⟩ := Ne.ckA_ok (b := b) (ps := ps) (pl := pl) (by rw [hE])
      obtain ⟨hvb, hvp⟩ := Ne.vAll_and v1
      rw [hn] at h2 k1 k2
      have HIF := Lib.hid (fun (i : Nat) W h1 h2' h3 => isfree_b b A B ps pl xs PA f fc m c' n pc hf hm hn hxn hpc hvb hvp h2 hpl (fun j hj => Ne.rg_ls (by have := k1 j hj; unfold Ne.rgI at this; exact this)) (fun j hj => by have := k2 j hj; unfold Ne.onI at this; exact Ne.onBb_iff.1 this) (Ne.atY p (i : Int)) (Ne.frY b ps pl p i) rfl W h1 h2' h3)
      obtain ⟨r, hr⟩ : ∃ r, Ne.frB b ps pl p = r := ⟨_, rfl⟩
      have HA := Lib.hid (Ne.drE_in hE hy hr)
      have HRY : Hid (Ne.frY b ps pl p yn = r) := Lib.hid (by unfold Ne.frY; rw [Ne.atY_self p hyn]; exact hr)
      have HY500 : Hid (yn ≤ 500) := Lib.hid (by omega)
      have HENV : Hid (Ne.DrEnv b A f fc B m c' PA n pc p (w.heap.size + 1 + 1) w.heap.size (w.heap.size + 1) w1.heap.size (w1.alloc (.cells #[.slice PA n pc] 86))) := Lib.hid ⟨bB2, bT2, bX2, bP2⟩
      have HWI := Lib.hid (fun W => within_b p.y 0 500 true (decide_eq_true hy) W)
      have HYN : Hid (p.y.toNat = yn) := Lib.hid (by omega)
      have HYP := Lib.hid hyn
      clear hX hpl hE k1 k2 k3 k4 h2 hvb hvp v1 hr hy bB2 bT2 bX2 hf hm hn HVX HX2 HC hxn hpc hyn
      go_wp2_with fail
      refine (HWI.out _).mono ?_
      rintro e w3 ⟨rfl, hb3⟩
      have bR3 := bR2.below hb3 bR2.lt
      have bP3 := bP2.below hb3 bP2.lt
      have hW3 := hW2.trans (hb3.mono hW2.size)
      have HENV3 := Lib.hid (HENV.out.below hb3)
      have HF3 := Lib.hid (HF2.out.below hb3)
      have HP3 := Lib.hid (HP2.out.below hb3)
      have HX3 := Lib.hid (HXX.out.below hb3)
      have HFALL := Lib.hid (fall_b #[.pointer (some ⟨w.heap.size + 1 + 1, 0, none⟩), .pointer (some ⟨w.heap.size, 0, none⟩), .pointer (some ⟨w.heap.size + 1, 0, none⟩), .pointer (some ⟨w1.heap.size, 0, none⟩)] (Ne.frY b ps pl p) yn HY500.out w3 (fun W i hb hi => drop1_b b A B PA f fc m c' n pc ps xs p _ _ _ _ i hi _ (Lib.hid fun W' a1 a2 a3 => HIF.out i W' a1 a2 a3) W (HF3.out.below hb) (HP3.out.below hb) (HX3.out.below hb) (HENV3.out.below hb)))
      clear y2
      have y3 := bP3.cell 2
      simp only [List.getElem?_toArray, List.getElem?_cons_zero, List.getElem?_cons_succ] at y3
      clear bP2 bR2 HF2 HP2 HXX HENV hb3
      go_wp2_with fail
      rw [HYP.out]
      refine HFALL.out.mono ?_
      rintro e w4 ⟨q, rfl, hq1, hq2, hb4⟩
      have bR4 := bR3.below hb4 bR3.lt
      have bP4 := bP3.below hb4 bP3.lt
      have hW4 := hW3.trans (hb4.mono hW3.size)
      rw [HRY.out] at hq1 ⊢
      have HQ := Lib.hid hq1
      clear hq1 HFALL y3 bP3 bR3
      cases r with
      | false =>
        go_wp2_with (refine st_pc (k := Ne.zc) bR4 rfl rfl _ _ rfl rfl rfl ?_; intro w9 bR9 hO9)
        exact bodyPost_ret (v := .tuple #[.agg (Ne.pcL Ne.zc).toArray, .bool false, .int .i64 0]) (results_cell_tmp2 Try.results40 _ _ (w.heap.size + 1 + 1 + 1) 40 (Ne.pcL Ne.zc).toArray (0, 0) _ rfl bR9 Try.underlying40 rfl infoPc) rfl ⟨by rw [← HEE.out, ← HDD.out, ← HVV.out, HA.out.1, HA.out.2.1, HA.out.2.2]; rfl, hW4.trans (hO9.below (by omega))⟩
      | true =>
        have HQ2 := Lib.hid (HQ.out rfl)
        have bP5 : Blk (w4.setCell ⟨w.heap.size + 1 + 1, 2, none⟩ (.int .i64 q)) (w.heap.size + 1 + 1) 40 (Ne.pcL (Ne.atY p q)).toArray := bP4.set_ 2 (.int .i64 q)
        have bR5 := bR4.far (p := ⟨w.heap.size + 1 + 1, 2, none⟩) (by simp) (.int .i64 q)
        have hW5 := hW4.setCell (p := ⟨w.heap.size + 1 + 1, 2, none⟩) (by show w.heap.size ≤ w.heap.size + 1 + 1; omega) (.int .i64 q)
        have y4 := bP4.cell 2
        have f4 := bP4.frozen 2
        simp only [List.getElem?_toArray, List.getElem?_cons_zero, List.getElem?_cons_succ] at y4
        have hrP5 := bP5.range
        clear bP4 bR4 bP5
        generalize hwe : w4.setCell ⟨w.heap.size + 1 + 1, 2, none⟩ (.int .i64 q) = w5 at *
        go_wp2_with (first | refine ldm_pc hrP5 (by rfl) _ rfl rfl ?_ | refine st_pc (k := Ne.atY p q) bR5 rfl rfl _ _ rfl rfl rfl ?_; intro w9 bR9 hO9)
        exact bodyPost_ret (v := .tuple #[.agg (Ne.pcL (Ne.atY p q)).toArray, .bool true, .int .i64 0]) (results_cell_tmp2 Try.results40 _ _ (w.heap.size + 1 + 1 + 1) 40 (Ne.pcL (Ne.atY p q)).toArray (0, 0) _ rfl bR9 Try.underlying40 rfl infoPc) rfl ⟨by rw [← HEE.out, ← HDD.out, ← HVV.out, HA.out.1, HA.out.2.1, HA.out.2.2, HYN.out, ← HQ2.out]; rfl, hW5.trans (hO9.below (by omega))⟩
    · have HA := Lib.hid (Ne.drE_arg hE hy)
      have HWI := Lib.hid (fun W => within_b p.y 0 500 false (decide_eq_false hy) W)
      go_wp2_with fail
      refine (HWI.out _).mono ?_
      rintro e w3 ⟨rfl, hb3⟩
      have bR3 := bR2.below hb3 bR2.lt
      have hW3 := hW2.trans (hb3.mono hW2.size)
      go_wp2_with (refine st_pc (k := Ne.zc) bR3 rfl rfl _ _ rfl rfl rfl ?_; intro w9 bR9 hO9)
      exact bodyPost_ret (v := .tuple #[.agg (Ne.pcL Ne.zc).toArray, .bool false, .int .i64 2]) (results_cell_tmp2 Try.results40 _ _ (w.heap.size + 1 + 1 + 1) 40 (Ne.pcL Ne.zc).toArray (0, 0) _ rfl bR9 Try.underlying40 rfl infoPc) rfl ⟨by rw [← HEE.out, ← HDD.out, ← HVV.out, HA.out.1, HA.out.2.1, HA.out.2.2], hW3.trans (hO9.below (by omega))⟩
  · have HA := Lib.hid (HBAD.out h0)
    have hne : (E0 == 0) = false := by simp; exact h0
    go_wp2_with (refine st_pc (k := Ne.zc) bR2 rfl rfl _ _ rfl rfl rfl ?_; intro w9 bR9 hO9)
    exact bodyPost_ret (v := .tuple #[.agg (Ne.pcL Ne.zc).toArray, .bool false, .int .i64 E0]) (results_cell_tmp2 Try.results40 _ _ (w.heap.size + 1 + 1 + 1) 40 (Ne.pcL Ne.zc).toArray (0, 0) _ rfl bR9 Try.underlying40 rfl infoPc) rfl ⟨by rw [← HEE.out, ← HDD.out, ← HVV.out, HA.out.1, HA.out.2.1, HA.out.2.2], hW2.trans (hO9.below (by omega))⟩
end Go.Proofs.Ytlikmlhlfbdchaa
/- nest: Drop of the document. -/
namespace Go.Proofs.Ytlikmlhlfbdchaa
open Go.RowKit Go.Shelf
set_option linter.unusedVariables false
theorem blk_only {w w' : World} {g g' : Nat} {t : TypeId} {cs : Array Value} (h : Blk w g t cs) (ho : Only g' w w') (hne : g ≠ g') : Blk w' g t cs := by
  unfold Blk at *; rw [ho.block g hne]; exact h
set_option maxRecDepth 100000 in
set_option maxHeartbeats 8000000 in
theorem rDrop_b (b : Ne.Bo) (A B C : Option Addr) (ps : List Ne.Pa) (pl : List Ne.Pc) (f fc m c' n c'' : Nat) (hf : b.fs.length = f) (hm : ps.length = m) (hn : pl.length = n) (hfM : f ≤ maxLen) (hmM : m ≤ maxLen) (hcap : n ≤ c'') (I E0 : Int) (hE : Ne.ckA b ps pl = (I, E0)) (p : Ne.Pc) (E : Int) (hEE : Ne.drE b ps pl p = E) (D : Bool) (hD : Ne.drB b ps pl p = D) (V : Ne.Pc) (hV : Ne.drV b ps pl p = V)
    (w : World) (hF : Rows Ne.rcL 4 w A b.fs) (hP : Ne.PaM w B ps) (hL : Rows Ne.pcL 4 w C pl) :
    Calls Try.prog 41 #[.agg (boW b A f fc), .slice B m c', .slice C n c'', .agg (Ne.pcL p).toArray] w fun e w' => e = .returned (.tuple #[.agg (Ne.pcL V).toArray, .bool D, .int .i64 E]) ∧ Below w.heap.size w w' := by
  have hB1 := (Below.refl w.heap.size w).alloc (Nat.le_refl _) (.cells (boW b A f fc) 33)
  have hB3 := hB1.alloc hB1.size (.cells (Ne.pcL p).toArray 40)
  have hB := hB3.alloc hB3.size (.cells (Ne.pcL Ne.zc).toArray 40)
  have bB := ((Blk.new w 33 (boW b A f fc)).alloc (.cells (Ne.pcL p).toArray 40)).alloc (.cells (Ne.pcL Ne.zc).toArray 40)
  have bP := (Blk.new (w.alloc (.cells (boW b A f fc) 33)) 40 (Ne.pcL p).toArray).alloc (.cells (Ne.pcL Ne.zc).toArray 40)
  have bR := Blk.new ((w.alloc (.cells (boW b A f fc) 33)).alloc (.cells (Ne.pcL p).toArray 40)) 40 (Ne.pcL Ne.zc).toArray
  rw [World.size_alloc] at bP bR
  rw [World.size_alloc] at bR
  have hrB := bB.range
  have HC := Lib.hid (fun W h h' h'' => rCheck_b b A B C ps pl f fc m c' n c'' hf hm hn hfM hmM hcap I E0 hE W h h' h'')
  have HF := Lib.hid (hF.below hB)
  have HP := Lib.hid (hP.below hB)
  have HL := Lib.hid (hL.below hB)
  have HBAD := Lib.hid (fun (h : E0 ≠ 0) => Ne.drE_bad (p := p) hE h)
  have HEE := Lib.hid hEE
  have HDD := Lib.hid hD
  have HVV := Lib.hid hV
  have HF0 := Lib.hid hF
  have HP0 := Lib.hid hP
  have HL0 := Lib.hid hL
  clear hF hP hL hEE hD hV
  go_enter Try.func41, Try.ntmps41
  go_wp2_with (refine ldm_bo hrB (by rfl) _ rfl rfl (Hid.out ?_))
  refine Lib.hid ?_
  go_wp2_with fail
  refine (HC.out _ HF.out HP.out HL.out).mono ?_
  rintro e w2 ⟨rfl, hb2⟩
  have hW2 := hB.trans (hb2.mono hB.size)
  have bR2 := bR.below hb2 bR.lt
  have bP2 := bP.below hb2 bP.lt
  have bB2 := bB.below hb2 bB.lt
  have HF2 := Lib.hid (HF.out.below hb2)
  have HP2 := Lib.hid (HP.out.below hb2)
  have HL2 := Lib.hid (HL.out.below hb2)
  have y2 := bP2.cell 2
  simp only [List.getElem?_toArray, List.getElem?_cons_zero, List.getElem?_cons_succ] at y2
  clear hrB bB bP bR HF HP HL hb2
  by_cases h0 : E0 = 0
  · subst h0
    by_cases hy : 0 ≤ p.y ∧ p.y ≤ 500
    · obtain ⟨yn, hyn⟩ : ∃ yn : Nat, p.y = yn := ⟨p.y.toNat, by omega⟩
      obtain ⟨v1, h2, k1, k2, k3, k4, _⟩ := Ne.ckA_ok (b := b) (ps := ps) (pl := pl) (by rw [hE])
      obtain ⟨hvb, hvp⟩ := Ne.vAll_and v1
      rw [hn] at h2 k1 k2
      have HIF := Lib.hid (fun (x : Ne.Pc) r (hr : Ne.frB b ps pl x = r) W h1 h2' h3 => rfree_b b A B C ps pl f fc m c' n c'' hf hm hn hvb hvp h2 (fun j hj => Ne.rg_ls (by have := k1 j hj; unfold Ne.rgI at this; exact this)) x r hr W h1 h2' h3)
      obtain ⟨r, hr⟩ : ∃ r, Ne.frB b ps pl p = r := ⟨_, rfl⟩
      have HA := Lib.hid (Ne.drE_in hE hy hr)
      have HIF0 := Lib.hid (HIF.out p r hr)
      have HRY : Hid (Ne.frY b ps pl p yn = r) := Lib.hid (by unfold Ne.frY; rw [Ne.atY_self p hyn]; exact hr)
      have HY500 : Hid (yn ≤ 500) := Lib.hid (by omega)
      have HYN : Hid (p.y.toNat = yn) := Lib.hid (by omega)
      have HYP := Lib.hid (Ne.atY_self p hyn)
      have d1 : decide (p.y < 0) = false := by simp; omega
      have d2 : decide ((500 : Int) < p.y) = false := by simp; omega
      have hrB2 := bB2.range
      have hrP2 := bP2.range
      clear hE k1 k2 k3 k4 h2 hvb hvp v1 hr hy hf hm hn HC hyn
      go_wp2_with (first | refine ldm_bo hrB2 (by rfl) _ rfl rfl ?_ | refine ldm_pc hrP2 (by rfl) _ rfl rfl (Hid.out ?_))
      refine Lib.hid ?_
      go_wp2_with fail
      refine (HIF0.out _ HF2.out HP2.out HL2.out).mono ?_
      rintro e w3 ⟨rfl, hb3⟩
      have bR3 := bR2.below hb3 bR2.lt
      have bP3 := bP2.below hb3 bP2.lt
      have bB3 := bB2.below hb3 bB2.lt
      have hW3 := hW2.trans (hb3.mono hW2.size)
      have HF3 := Lib.hid (HF2.out.below hb3)
      have HP3 := Lib.hid (HP2.out.below hb3)
      have HL3 := Lib.hid (HL2.out.below hb3)
      clear bP2 bR2 bB2 HF2 HP2 HL2 y2 hb3 hrB2 hrP2 d1 d2
      cases r with
      | false =>
        go_wp2_with (refine st_pc (k := Ne.zc) bR3 rfl rfl _ _ rfl rfl rfl ?_; intro w9 bR9 hO9)
        exact bodyPost_ret (v := .tuple #[.agg (Ne.pcL Ne.zc).toArray, .bool false, .int .i64 0]) (results_cell_tmp2 Try.results41 _ _ (w.heap.size + 1 + 1) 40 (Ne.pcL Ne.zc).toArray (0, 0) _ rfl bR9 Try.underlying40 rfl infoPc) rfl ⟨by rw [← HEE.out, ← HDD.out, ← HVV.out, HA.out.1, HA.out.2.1, HA.out.2.2]; rfl, hW3.trans (hO9.below (by omega))⟩
      | true =>
        rw [← HYP.out] at bP3
        go_wp2
        have HVQ : Hid (∀ k : Nat, Ne.flN (Ne.frY b ps pl p) yn = k → V = Ne.atY p (k : Int)) := Lib.hid (fun k h => by rw [← HVV.out, HA.out.2.2, if_pos (by first | rfl | trivial), HYN.out, h])
        have HDE : Hid (D = true ∧ E = 0) := Lib.hid ⟨by rw [← HDD.out, HA.out.2.1], by rw [← HEE.out, HA.out.1]⟩
        go_loopg [] yn (fun gk wr => ∃ k : Nat, k = gk ∧ k ≤ yn ∧ Hid (Ne.flN (Ne.frY b ps pl p) yn = Ne.flN (Ne.frY b ps pl p) k) ∧ Blk wr w.heap.size 33 (boW b A f fc) ∧ Blk wr (w.heap.size + 1) 40 (Ne.pcL (Ne.atY p (k : Int))).toArray ∧ Blk wr (w.heap.size + 1 + 1) 40 (Ne.pcL Ne.zc).toArray ∧ Below w.heap.size w wr)
        case atStart => exact ⟨yn, rfl, Nat.le_refl _, Lib.hid rfl, bB3, bP3, bR3, hW3⟩
        case round =>
          obtain ⟨k, rfl, hk, HK, bBk, bPk, bRk, hWk⟩ := hrel
          rcases Nat.eq_zero_or_pos k with rfl | hk0
          · have hrPk := bPk.range
            have y0 : wr.cell? ⟨w.heap.size + 1, 2, none⟩ = some (.int .i64 0) := (bPk.cell 2).trans rfl
            have HQ := Lib.hid (HVQ.out 0 (HK.out.trans rfl))
            clear bPk bBk
            go_wp2_with (first | refine ldm_pc hrPk (by rfl) _ rfl rfl ?_ | refine st_pc (k := Ne.atY p ((0 : Nat) : Int)) bRk rfl rfl _ _ rfl rfl rfl ?_; intro w9 bR9 hO9)
            exact bodyPost_ret (v := .tuple #[.agg (Ne.pcL (Ne.atY p ((0 : Nat) : Int))).toArray, .bool true, .int .i64 0]) (results_cell_tmp2 Try.results41 _ _ (w.heap.size + 1 + 1) 40 (Ne.pcL (Ne.atY p ((0 : Nat) : Int))).toArray (0, 0) _ rfl bR9 Try.underlying40 rfl infoPc) rfl ⟨by rw [HDE.out.1, HDE.out.2, HQ.out], hWk.trans (hO9.below (by omega))⟩
          · obtain ⟨j, rfl⟩ : ∃ j, k = j + 1 := ⟨k - 1, by omega⟩
            obtain ⟨z, hz⟩ : ∃ z, Ne.frY b ps pl p j = z := ⟨_, rfl⟩
            have HIFJ := Lib.hid (HIF.out (Ne.atY p (j : Int)) z hz)
            have HN : Hid (Ne.flN (Ne.frY b ps pl p) (j + 1) = if z = true then Ne.flN (Ne.frY b ps pl p) j else j + 1) := Lib.hid (by rw [Ne.flN, hz])
            have y0 : wr.cell? ⟨w.heap.size + 1, 2, none⟩ = some (.int .i64 ((j : Int) + 1)) := (bPk.cell 2).trans rfl
            have d1 : decide ((0 : Int) < (j : Int) + 1) = true := by simp <;> omega
            have hw1 : IntKind.i64.wrap (j : Int) = (j : Int) := by have := HY500.out; exact IntWalk.i64_in _ (by omega)
            have hw2 : IntKind.i64.wrap ((j : Int) + 1 - 1) = (j : Int) := by rw [show (j : Int) + 1 - 1 = j by omega]; exact hw1
            have hrPk : wr.rangeAt (w.heap.size + 1) 0 (Ne.pcL ⟨p.p, p.x, (j : Int) + 1, p.t⟩) := bPk.range
            have hNb := (Below.refl wr.heap.size wr).alloc (Nat.le_refl _) (.cells #[.int .i64 p.p, .int .i64 p.x, .int .i64 j, .bool p.t] 40)
            have bN : Blk (wr.alloc (.cells #[.int .i64 p.p, .int .i64 p.x, .int .i64 j, .bool p.t] 40)) wr.heap.size 40 (Ne.pcL (Ne.atY p j)).toArray := Blk.new wr _ _
            have hrN := bN.range
            have bBn := bBk.below hNb bBk.lt
            have hrBn := bBn.range
            have bPn := bPk.below hNb bPk.lt
            have bRn := bRk.below hNb bRk.lt
            have hWn := hWk.trans (hNb.mono hWk.size)
            clear hz
            go_wp2_with (first | refine ldm_bo hrBn (by rfl) _ rfl rfl ?_ | refine ldm_pc hrPk (by rfl) _ rfl rfl ?_ | refine ldm_pc hrN (by rfl) _ rfl rfl (Hid.out ?_))
            refine Lib.hid ?_
            go_wp2_with fail
            refine (HIFJ.out _ (HF0.out.below hWn) (HP0.out.below hWn) (HL0.out.below hWn)).mono ?_
            rintro e w5 ⟨rfl, hb5⟩
            have bB5 := bBn.below hb5 bBn.lt
            have bP5 := bPn.below hb5 bPn.lt
            have bR5 := bRn.below hb5 bRn.lt
            have bN5 := bN.below hb5 bN.lt
            have hW5 := hWn.trans (hb5.mono hWn.size)
            have hrN5 := bN5.range
            have hrP5 := bP5.range
            clear bBn bPn bRn bN bBk bPk bRk hrN hrBn hrPk y0 d1 hw1 hw2 hNb
            cases z with
            | false =>
              have HQ := Lib.hid (HVQ.out (j + 1) (HK.out.trans (HN.out.trans rfl)))
              go_wp2_with (first | refine ldm_pc hrP5 (by rfl) _ rfl rfl ?_ | refine st_pc (k := Ne.atY p ((j + 1 : Nat) : Int)) bR5 rfl rfl _ _ rfl rfl rfl ?_; intro w9 bR9 hO9)
              exact bodyPost_ret (v := .tuple #[.agg (Ne.pcL (Ne.atY p ((j + 1 : Nat) : Int))).toArray, .bool true, .int .i64 0]) (results_cell_tmp2 Try.results41 _ _ (w.heap.size + 1 + 1) 40 (Ne.pcL (Ne.atY p ((j + 1 : Nat) : Int))).toArray (0, 0) _ rfl bR9 Try.underlying40 rfl infoPc) rfl ⟨by rw [HDE.out.1, HDE.out.2, HQ.out], hW5.trans (hO9.below (by omega))⟩
            | true =>
              have HKJ : Hid (Ne.flN (Ne.frY b ps pl p) yn = Ne.flN (Ne.frY b ps pl p) j) := Lib.hid (HK.out.trans (HN.out.trans rfl))
              go_wp2_with (first | refine ldm_pc hrN5 (by rfl) _ rfl rfl ?_ | refine st_pc (k := Ne.atY p (j : Int)) bP5 rfl rfl _ _ rfl rfl rfl ?_; intro w9 bP9 hO9; have bB9 := blk_only bB5 hO9 (by omega); have bR9 := blk_only bR5 hO9 (by omega); have hW9 := hW5.trans (hO9.below (by omega)))
              go_roundg j
              case measure => omega
              case rel => exact ⟨j, rfl, by omega, HKJ, bB9, bP9, bR9, hW9⟩
    · have HA := Lib.hid (Ne.drE_arg hE hy)
      have dd : (decide (p.y < 0) = true) ∨ (decide (p.y < 0) = false ∧ decide ((500 : Int) < p.y) = true) := by
        by_cases h : p.y < 0
        · exact .inl (by simp; exact h)
        · exact .inr ⟨by simp; omega, by simp; omega⟩
      clear hE hf hm hn HC hy HF2 HP2 HL2
      rcases dd with d1 | ⟨d1, d2⟩
      · go_wp2_with (refine st_pc (k := Ne.zc) bR2 rfl rfl _ _ rfl rfl rfl ?_; intro w9 bR9 hO9)
        exact bodyPost_ret (v := .tuple #[.agg (Ne.pcL Ne.zc).toArray, .bool false, .int .i64 2]) (results_cell_tmp2 Try.results41 _ _ (w.heap.size + 1 + 1) 40 (Ne.pcL Ne.zc).toArray (0, 0) _ rfl bR9 Try.underlying40 rfl infoPc) rfl ⟨by rw [← HEE.out, ← HDD.out, ← HVV.out, HA.out.1, HA.out.2.1, HA.out.2.2], hW2.trans (hO9.below (by omega))⟩
      · go_wp2_with (refine st_pc (k := Ne.zc) bR2 rfl rfl _ _ rfl rfl rfl ?_; intro w9 bR9 hO9)
        exact bodyPost_ret (v := .tuple #[.agg (Ne.pcL Ne.zc).toArray, .bool false, .int .i64 2]) (results_cell_tmp2 Try.results41 _ _ (w.heap.size + 1 + 1) 40 (Ne.pcL Ne.zc).toArray (0, 0) _ rfl bR9 Try.underlying40 rfl infoPc) rfl ⟨by rw [← HEE.out, ← HDD.out, ← HVV.out, HA.out.1, HA.out.2.1, HA.out.2.2], hW2.trans (hO9.below (by omega))⟩
  · have HA := Lib.hid (HBAD.out h0)
    have hne : (E0 == 0) = false := by simp; exact h0
    clear hE hf hm hn HC HF2 HP2 HL2
    go_wp2_with (refine st_pc (k := Ne.zc) bR2 rfl rfl _ _ rfl rfl rfl ?_; intro w9 bR9 hO9)
    exact bodyPost_ret (v := .tuple #[.agg (Ne.pcL Ne.zc).toArray, .bool false, .int .i64 E0]) (results_cell_tmp2 Try.results41 _ _ (w.heap.size + 1 + 1) 40 (Ne.pcL Ne.zc).toArray (0, 0) _ rfl bR9 Try.underlying40 rfl infoPc) rfl ⟨by rw [← HEE.out, ← HDD.out, ← HVV.out, HA.out.1, HA.out.2.1, HA.out.2.2], hW2.trans (hO9.below (by omega))⟩
end Go.Proofs.Ytlikmlhlfbdchaa
/- nest: the law of drops. -/
namespace Go.Proofs.Ytlikmlhlfbdchaa
open Go.RowKit Go.Shelf
set_option linter.unusedVariables false
set_option maxRecDepth 100000 in
set_option maxHeartbeats 16000000 in
theorem law_drops (b : Ne.Bo) (ps : List Ne.Pa) (pl : List Ne.Pc) (fA : Option Addr) (f fC : Nat) (pA : Option Addr) (m pC : Nat) (lA : Option Addr) (n lC : Nat) (p : Ne.Pc) (hf : b.fs.length = f) (hm : ps.length = m) (hn : pl.length = n) (hfM : f ≤ 9223372036854775807) (hmM : m ≤ 9223372036854775807) (hnM : n ≤ 9223372036854775807) (hcap : n ≤ lC)
    (w : World) (hF : Rows Ne.rcL 4 w fA b.fs) (hP : Ne.PaM w pA ps) (hL : Rows Ne.pcL 4 w lA pl) :
    Calls Try.prog 7 #[.agg (dkA b fA f fC pA m pC lA n lC), .agg (Ne.pcL p).toArray] w fun e w' => e = .returned (.bool true) ∧ Below w.heap.size w w' := by
  have hB0 := (Below.refl w.heap.size w).alloc (Nat.le_refl _) (.cells (dkA b fA f fC pA m pC lA n lC) 37)
  have hB := hB0.alloc hB0.size (.cells (Ne.pcL p).toArray 40)
  have bD := (Blk.new w 37 (dkA b fA f fC pA m pC lA n lC)).alloc (.cells (Ne.pcL p).toArray 40)
  have bX := Blk.new (w.alloc (.cells (dkA b fA f fC pA m pC lA n lC) 37)) 40 (Ne.pcL p).toArray
  rw [World.size_alloc] at bX
  have hrD := bD.range
  have HFW := Lib.hid (fun W h h' => few_b b fA f fC pA m pC lA n lC ps pl hm hn hmM hnM W h h')
  have HP := Lib.hid (hP.below hB)
  have HL := Lib.hid (hL.below hB)
  have HF := Lib.hid (hF.below hB)
  obtain ⟨I, E, hE⟩ : ∃ I E, Ne.ckA b ps pl = (I, E) := ⟨_, _, rfl⟩
  obtain ⟨r, hr⟩ : ∃ r, (decide (E = 0) && Ne.frB b ps pl p) = r := ⟨_, rfl⟩
  obtain ⟨E2, hE2⟩ : ∃ x, Ne.drE b ps pl p = x := ⟨_, rfl⟩
  obtain ⟨D, hD⟩ : ∃ x, Ne.drB b ps pl p = x := ⟨_, rfl⟩
  obtain ⟨V, hV⟩ : ∃ x, Ne.drV b ps pl p = x := ⟨_, rfl⟩
  have HK1 := Lib.hid (fun W h h' h'' => Free_b b fA pA lA ps pl f fC m pC n lC hf hm hn I E hE p r hr W h h' h'')
  have HK2 := Lib.hid (fun W h h' h'' => rFree_b b fA pA lA ps pl f fC m pC n lC hf hm hn hfM hmM hcap I E hE p r hr W h h' h'')
  have HD1 := Lib.hid (fun W h h' h'' => Drop_b b fA pA lA ps pl f fC m pC n lC hf hm hn I E hE p E2 hE2 D hD V hV W h h' h'')
  have HD2 := Lib.hid (fun W h h' h'' => rDrop_b b fA pA lA ps pl f fC m pC n lC hf hm hn hfM hmM hcap I E hE p E2 hE2 D hD V hV W h h' h'')
  have hee : (E == E) = true := by simp
  have hrr : (r == r) = true := by simp
  have hee2 : (E2 == E2) = true := by simp
  have hdd : (D == D) = true := by simp
  have d10 : (decide ((10 : Int) < (n : Int)) = true) ∨ (decide ((10 : Int) < (n : Int)) = false) := by cases decide ((10 : Int) < (n : Int)) <;> simp
  clear hP hL hF hm hn hf hE hr hE2 hD hV hmM hfM hcap hnM
  go_enter Try.func7, Try.ntmps7
  go_wp2_with (refine ldm_dk hrD (by rfl) _ rfl rfl ?_)
  refine (HFW.out _ HP.out HL.out).mono ?_
  rintro e w1 ⟨⟨r0, rfl, _⟩, b1⟩
  have hB1 := hB.trans (b1.mono hB.size)
  have bD1 := bD.below b1 bD.lt
  have bX1 := bX.below b1 bX.lt
  have HP1 := Lib.hid (HP.out.below b1)
  have HF1 := Lib.hid (HF.out.below b1)
  have HL1 := Lib.hid (HL.out.below b1)
  clear bD bX HP HL HF hrD hB b1 HFW
  cases r0 with
  | false =>
    go_wp2_with fail
    refine (awake_any _).mono ?_
    rintro e w2 ⟨rfl, b2⟩
    go_wp2
    go_ret
    exact ⟨rfl, hB1.trans (b2.mono hB1.size)⟩
  | true =>
   have q5 := bD1.cell 5
   simp only [List.getElem?_toArray, List.getElem?_cons_zero, List.getElem?_cons_succ] at q5
   rcases d10 with d1 | d1
   · go_wp2_with fail
     refine (awake_any _).mono ?_
     rintro e w2 ⟨rfl, b2⟩
     go_wp2
     go_ret
     exact ⟨rfl, hB1.trans (b2.mono hB1.size)⟩
   ·
    have hb1 := desk_board bD1.range
    have rX1 := bX1.range
    have q4 := bD1.cell 4
    simp only [List.getElem?_toArray, List.getElem?_cons_zero, List.getElem?_cons_succ] at q4
    go_wp2_with (first | refine ldm_bo hb1 (by rfl) _ rfl rfl ?_ | refine ldm_pc rX1 (by rfl) _ rfl rfl (Hid.out ?_))
    refine Lib.hid ?_
    go_wp2_with fail
    refine (HK1.out _ HF1.out HP1.out HL1.out).mono ?_
    rintro e w2 ⟨rfl, b2⟩
    have hB2 := hB1.trans (b2.mono hB1.size)
    have bD2 := bD1.below b2 bD1.lt
    have bX2 := bX1.below b2 bX1.lt
    have HP2 := Lib.hid (HP1.out.below b2)
    have HF2 := Lib.hid (HF1.out.below b2)
    have HL2 := Lib.hid (HL1.out.below b2)
    clear hb1 rX1 q4 q5 bD1 bX1 b2 HP1 HF1 HL1
    have hb1 := desk_board bD2.range
    have rX1 := bX2.range
    have q4 := bD2.cell 4
    have q5 := bD2.cell 5
    simp only [List.getElem?_toArray, List.getElem?_cons_zero, List.getElem?_cons_succ] at q4 q5
    go_wp2_with (first | refine ldm_bo hb1 (by rfl) _ rfl rfl ?_ | refine ldm_pc rX1 (by rfl) _ rfl rfl (Hid.out ?_))
    refine Lib.hid ?_
    go_wp2_with fail
    refine (HK2.out _ HF2.out HP2.out HL2.out).mono ?_
    rintro e w3 ⟨rfl, b3⟩
    have hB3 := hB2.trans (b3.mono hB2.size)
    have bD3 := bD2.below b3 bD2.lt
    have bX3 := bX2.below b3 bX2.lt
    have HP3 := Lib.hid (HP2.out.below b3)
    have HF3 := Lib.hid (HF2.out.below b3)
    have HL3 := Lib.hid (HL2.out.below b3)
    clear hb1 rX1 q4 q5 bD2 bX2 b3 HP2 HF2 HL2
    have hb1 := desk_board bD3.range
    have rX1 := bX3.range
    have q4 := bD3.cell 4
    have q5 := bD3.cell 5
    simp only [List.getElem?_toArray, List.getElem?_cons_zero, List.getElem?_cons_succ] at q4 q5
    go_wp2_with (first | refine ldm_bo hb1 (by rfl) _ rfl rfl ?_ | refine ldm_pc rX1 (by rfl) _ rfl rfl (Hid.out ?_))
    refine Lib.hid ?_
    go_wp2_with fail
    refine (HD1.out _ HF3.out HP3.out HL3.out).mono ?_
    rintro e w4 ⟨rfl, b4⟩
    have hB4 := hB3.trans (b4.mono hB3.size)
    have bD4 := bD3.below b4 bD3.lt
    have bX4 := bX3.below b4 bX3.lt
    have HP4 := Lib.hid (HP3.out.below b4)
    have HF4 := Lib.hid (HF3.out.below b4)
    have HL4 := Lib.hid (HL3.out.below b4)
    clear hb1 rX1 q4 q5 bD3 bX3 b4 HP3 HF3 HL3
    have hB5 := hB4.alloc hB4.size (.cells (Ne.pcL V).toArray 40)
    have bD5 := bD4.alloc (.cells (Ne.pcL V).toArray 40)
    have bX5 := bX4.alloc (.cells (Ne.pcL V).toArray 40)
    have bY5 := Blk.new w4 40 (Ne.pcL V).toArray
    have b5 := (Below.refl w4.heap.size w4).alloc (Nat.le_refl _) (.cells (Ne.pcL V).toArray 40)
    have HP5 := Lib.hid (HP4.out.below b5)
    have HF5 := Lib.hid (HF4.out.below b5)
    have HL5 := Lib.hid (HL4.out.below b5)
    clear bD4 bX4 b5 HP4 HF4 HL4
    have hb1 := desk_board bD5.range
    have rX1 := bX5.range
    have q4 := bD5.cell 4
    have q5 := bD5.cell 5
    simp only [List.getElem?_toArray, List.getElem?_cons_zero, List.getElem?_cons_succ] at q4 q5
    go_wp2_with (first | refine ldm_bo hb1 (by rfl) _ rfl rfl ?_ | refine ldm_pc rX1 (by rfl) _ rfl rfl (Hid.out ?_))
    refine Lib.hid ?_
    go_wp2_with fail
    refine (HD2.out _ HF5.out HP5.out HL5.out).mono ?_
    rintro e w6 ⟨rfl, b6⟩
    have hB6 := hB5.trans (b6.mono hB5.size)
    have bD6 := bD5.below b6 bD5.lt
    have bX6 := bX5.below b6 bX5.lt
    have HP6 := Lib.hid (HP5.out.below b6)
    have HF6 := Lib.hid (HF5.out.below b6)
    have HL6 := Lib.hid (HL5.out.below b6)
    have bY6 := bY5.below b6 bY5.lt
    clear bY5
    clear hb1 rX1 q4 q5 bD5 bX5 b6 HP5 HF5 HL5
    have hB7 := hB6.alloc hB6.size (.cells (Ne.pcL V).toArray 40)
    have bD7 := bD6.alloc (.cells (Ne.pcL V).toArray 40)
    have bX7 := bX6.alloc (.cells (Ne.pcL V).toArray 40)
    have bZ7 := Blk.new w6 40 (Ne.pcL V).toArray
    have b7 := (Below.refl w6.heap.size w6).alloc (Nat.le_refl _) (.cells (Ne.pcL V).toArray 40)
    have HP7 := Lib.hid (HP6.out.below b7)
    have HF7 := Lib.hid (HF6.out.below b7)
    have HL7 := Lib.hid (HL6.out.below b7)
    clear bD6 bX6 b7 HP6 HF6 HL6
    have bY7 := bY6.alloc (.cells (Ne.pcL V).toArray 40)
    clear bY6
    have rY := bY7.range
    have rZ := bZ7.range
    have hq := run_eqPc V V true (by simp)
    go_wp2_with (first | refine ldm_pc rY (by rfl) _ rfl rfl ?_ | refine ldm_pc rZ (by rfl) _ rfl rfl ?_)
    refine (awake_any _).mono ?_
    rintro e w10 ⟨rfl, b10⟩
    go_wp2
    go_ret
    exact ⟨rfl, hB7.trans (b10.mono hB7.size)⟩
end Go.Proofs.Ytlikmlhlfbdchaa
/- nest: the law of falls. -/
namespace Go.Proofs.Ytlikmlhlfbdchaa
open Go.RowKit Go.Shelf
set_option linter.unusedVariables false
namespace Ne
/-- what Drop answers -/
theorem dr_cases (b : Bo) (ps : List Pa) (pl : List Pc) (p : Pc) : (drB b ps pl p = false ∧ drV b ps pl p = ⟨0, 0, 0, false⟩) ∨ (drB b ps pl p = true ∧ drE b ps pl p = 0 ∧ (ckA b ps pl).2 = 0 ∧ ∃ k : Nat, (k : Int) ≤ p.y ∧ p.y ≤ 500 ∧ drV b ps pl p = atY p (k : Int) ∧ frB b ps pl (atY p (k : Int)) = true ∧ (k = 0 ∨ frB b ps pl (atY p ((k : Int) - 1)) = false)) := by
  cases h : drB b ps pl p with
  | false => left; refine ⟨rfl, ?_⟩; unfold drV; rw [h, if_neg (by simp)]; rfl
  | true =>
    right
    have h' := h
    unfold drB at h'
    simp only [Bool.and_eq_true, decide_eq_true_eq] at h'
    obtain ⟨h1, h2, h3⟩ := h'
    refine ⟨rfl, by unfold drE; rw [if_pos h1, if_pos h2], h1, flN (frY b ps pl p) p.y.toNat, ?_, h2.2, ?_, ?_, ?_⟩
    · have := flN_le (frY b ps pl p) p.y.toNat; omega
    · unfold drV; rw [h, if_pos rfl]
    · have h4 : frY b ps pl p p.y.toNat = true := by unfold frY; rw [atY_self p (y := p.y.toNat) (by omega)]; exact h3
      exact flN_free _ _ h4
    · have h5 := flN_low (frY b ps pl p) p.y.toNat
      generalize flN (frY b ps pl p) p.y.toNat = k at h5
      rcases h5 with h5 | h5
      · exact .inl h5
      · by_cases h0 : k = 0
        · exact .inl h0
        · right; unfold frY at h5; rw [show ((k - 1 : Nat) : Int) = (k : Int) - 1 by omega] at h5; exact h5
end Ne
set_option maxRecDepth 100000 in
set_option maxHeartbeats 16000000 in
theorem law_falls (b : Ne.Bo) (ps : List Ne.Pa) (pl : List Ne.Pc) (fA : Option Addr) (f fC : Nat) (pA : Option Addr) (m pC : Nat) (lA : Option Addr) (n lC : Nat) (p : Ne.Pc) (hf : b.fs.length = f) (hm : ps.length = m) (hn : pl.length = n) (hfM : f ≤ 9223372036854775807) (hmM : m ≤ 9223372036854775807) (hnM : n ≤ 9223372036854775807) (hcap : n ≤ lC)
    (w : World) (hF : Rows Ne.rcL 4 w fA b.fs) (hP : Ne.PaM w pA ps) (hL : Rows Ne.pcL 4 w lA pl) :
    Calls Try.prog 12 #[.agg (dkA b fA f fC pA m pC lA n lC), .agg (Ne.pcL p).toArray] w fun e w' => e = .returned (.bool true) ∧ Below w.heap.size w w' := by
  have hB0 := (Below.refl w.heap.size w).alloc (Nat.le_refl _) (.cells (dkA b fA f fC pA m pC lA n lC) 37)
  have hB := hB0.alloc hB0.size (.cells (Ne.pcL p).toArray 40)
  have bD := (Blk.new w 37 (dkA b fA f fC pA m pC lA n lC)).alloc (.cells (Ne.pcL p).toArray 40)
  have bX := Blk.new (w.alloc (.cells (dkA b fA f fC pA m pC lA n lC) 37)) 40 (Ne.pcL p).toArray
  rw [World.size_alloc] at bX
  have hrD := bD.range
  have HFW := Lib.hid (fun W h h' => few_b b fA f fC pA m pC lA n lC ps pl hm hn hmM hnM W h h')
  have HP := Lib.hid (hP.below hB)
  have HL := Lib.hid (hL.below hB)
  have HF := Lib.hid (hF.below hB)
  obtain ⟨I, E, hE⟩ : ∃ I E, Ne.ckA b ps pl = (I, E) := ⟨_, _, rfl⟩
  have hcs := Ne.dr_cases b ps pl p
  obtain ⟨E2, hE2⟩ : ∃ x, Ne.drE b ps pl p = x := ⟨_, rfl⟩
  obtain ⟨D, hD⟩ : ∃ x, Ne.drB b ps pl p = x := ⟨_, rfl⟩
  obtain ⟨V, hV⟩ : ∃ x, Ne.drV b ps pl p = x := ⟨_, rfl⟩
  have HK1 := Lib.hid (fun x r hr W h h' h'' => Free_b b fA pA lA ps pl f fC m pC n lC hf hm hn I E hE x r hr W h h' h'')
  have HD1 := Lib.hid (fun W h h' h'' => Drop_b b fA pA lA ps pl f fC m pC n lC hf hm hn I E hE p E2 hE2 D hD V hV W h h' h'')
  rw [hE2, hD, hV, hE] at hcs
  obtain ⟨pp, px, py, pt⟩ := p
  dsimp only [Ne.atY] at hcs
  have HCS := Lib.hid hcs
  clear hcs
  have d10 : (decide ((10 : Int) < (n : Int)) = true) ∨ (decide ((10 : Int) < (n : Int)) = false) := by cases decide ((10 : Int) < (n : Int)) <;> simp
  clear hP hL hF hm hn hf hE hE2 hD hV hmM hfM hcap hnM
  go_enter Try.func12, Try.ntmps12
  go_wp2_with (refine ldm_dk hrD (by rfl) _ rfl rfl ?_)
  refine (HFW.out _ HP.out HL.out).mono ?_
  rintro e w1 ⟨⟨r0, rfl, _⟩, b1⟩
  have hB1 := hB.trans (b1.mono hB.size)
  have bD1 := bD.below b1 bD.lt
  have bX1 := bX.below b1 bX.lt
  have HP1 := Lib.hid (HP.out.below b1)
  have HF1 := Lib.hid (HF.out.below b1)
  have HL1 := Lib.hid (HL.out.below b1)
  clear bD bX HP HL HF hrD hB b1 HFW
  cases r0 with
  | false =>
    go_wp2_with fail
    refine (awake_any _).mono ?_
    rintro e w2 ⟨rfl, b2⟩
    go_wp2
    go_ret
    exact ⟨rfl, hB1.trans (b2.mono hB1.size)⟩
  | true =>
   have q5 := bD1.cell 5
   simp only [List.getElem?_toArray, List.getElem?_cons_zero, List.getElem?_cons_succ] at q5
   rcases d10 with d1 | d1
   · go_wp2_with fail
     refine (awake_any _).mono ?_
     rintro e w2 ⟨rfl, b2⟩
     go_wp2
     go_ret
     exact ⟨rfl, hB1.trans (b2.mono hB1.size)⟩
   ·
    have hb1 := desk_board bD1.range
    have rX1 := bX1.range
    have q4 := bD1.cell 4
    simp only [List.getElem?_toArray, List.getElem?_cons_zero, List.getElem?_cons_succ] at q4
    go_wp2_with (first | refine ldm_bo hb1 (by rfl) _ rfl rfl ?_ | refine ldm_pc rX1 (by rfl) _ rfl rfl (Hid.out ?_))
    refine Lib.hid ?_
    go_wp2_with fail
    refine (HD1.out _ HF1.out HP1.out HL1.out).mono ?_
    rintro e w2 ⟨rfl, b2⟩
    have hB2 := hB1.trans (b2.mono hB1.size)
    have bD2 := bD1.below b2 bD1.lt
    have bX2 := bX1.below b2 bX1.lt
    have HP2 := Lib.hid (HP1.out.below b2)
    have HF2 := Lib.hid (HF1.out.below b2)
    have HL2 := Lib.hid (HL1.out.below b2)
    clear hb1 rX1 q4 q5 bD1 bX1 b2 HP1 HF1 HL1
    rcases HCS.out with ⟨rfl, rfl⟩ | ⟨rfl, rfl, h00, k, hk, h500, rfl, hfr, hlow⟩
    · have hq := run_eqPc ⟨0, 0, 0, false⟩ ⟨0, 0, 0, false⟩ true (by simp)
      have bY := Blk.new w2 40 (Ne.pcL ⟨0, 0, 0, false⟩).toArray
      have rY := bY.range
      have hB3 := hB2.alloc hB2.size (.cells (Ne.pcL ⟨0, 0, 0, false⟩).toArray 40)
      clear HCS HK1 HD1 bD2 bX2 HP2 HF2 HL2 bY
      by_cases d2 : E2 = 0
      · subst d2
        go_wp2_with (refine ldm_pc rY (by rfl) _ rfl rfl (Hid.out ?_))
        refine Lib.hid ?_
        go_wp2_with fail
        refine (awake_any _).mono ?_
        rintro e w10 ⟨rfl, b10⟩
        go_wp2
        go_ret
        exact ⟨rfl, hB3.trans (b10.mono hB3.size)⟩
      · have d3 : (E2 == 0) = false := by simp; exact d2
        go_wp2_with (refine ldm_pc rY (by rfl) _ rfl rfl (Hid.out ?_))
        refine Lib.hid ?_
        go_wp2_with fail
        refine (awake_any _).mono ?_
        rintro e w10 ⟨rfl, b10⟩
        go_wp2
        go_ret
        exact ⟨rfl, hB3.trans (b10.mono hB3.size)⟩
    · have HFR := Lib.hid (HK1.out ⟨pp, px, (k : Int), pt⟩ true (by rw [hfr]; simp; exact h00))
      obtain ⟨r2, hr2⟩ : ∃ r, Ne.frB b ps pl ⟨pp, px, (k : Int) - 1, pt⟩ = r := ⟨_, rfl⟩
      have h00' : E = 0 := h00
      subst h00'
      have HFU := Lib.hid (HK1.out ⟨pp, px, (k : Int) - 1, pt⟩ r2 (by rw [hr2]; simp))
      have HLOW : Hid (k = 0 ∨ r2 = false) := Lib.hid (by rw [← hr2]; exact hlow)
      have ee1 : decide (py < (k : Int)) = false := by simp; omega
      have ee2 : decide ((k : Int) < 0) = false := by simp
      have kw : IntKind.i64.wrap ((k : Int) - 1) = (k : Int) - 1 := IntWalk.i64_in _ (by omega)
      have hkk : Hid (k ≤ 500) := Lib.hid (by omega)
      have bY := Blk.new w2 40 (Ne.pcL ⟨pp, px, (k : Int), pt⟩).toArray
      have bD3 := bD2.alloc (.cells (Ne.pcL ⟨pp, px, (k : Int), pt⟩).toArray 40)
      have bX3 := bX2.alloc (.cells (Ne.pcL ⟨pp, px, (k : Int), pt⟩).toArray 40)
      have hB3 := hB2.alloc hB2.size (.cells (Ne.pcL ⟨pp, px, (k : Int), pt⟩).toArray 40)
      have b3 := (Below.refl w2.heap.size w2).alloc (Nat.le_refl _) (.cells (Ne.pcL ⟨pp, px, (k : Int), pt⟩).toArray 40)
      have HP3 := Lib.hid (HP2.out.below b3)
      have HF3 := Lib.hid (HF2.out.below b3)
      have HL3 := Lib.hid (HL2.out.below b3)
      have HWS := Lib.hid bX2.lt
      clear HCS HK1 HD1 bD2 bX2 HP2 HF2 HL2 b3 hfr hlow h00 hk h500 hr2
      have hb1 := desk_board bD3.range
      have rY := bY.range
      have q4 := bD3.cell 4
      have q5 := bD3.cell 5
      simp only [List.getElem?_toArray, List.getElem?_cons_zero, List.getElem?_cons_succ] at q4 q5
      go_wp2_with (first | refine ldm_bo hb1 (by rfl) _ rfl rfl ?_ | refine ldm_pc rY (by rfl) _ rfl rfl (Hid.out ?_))
      refine Lib.hid ?_
      go_wp2_with fail
      refine (HFR.out _ HF3.out HP3.out HL3.out).mono ?_
      rintro e w4 ⟨rfl, b4⟩
      have hB4 := hB3.trans (b4.mono hB3.size)
      have bD4 := bD3.below b4 bD3.lt
      have bX4 := bX3.below b4 bX3.lt
      have bY4 := bY.below b4 bY.lt
      have HP4 := Lib.hid (HP3.out.below b4)
      have HF4 := Lib.hid (HF3.out.below b4)
      have HL4 := Lib.hid (HL3.out.below b4)
      clear hb1 rY q4 q5 bD3 bX3 bY b4 HP3 HF3 HL3
      have rY := bY4.range
      have y2 := bY4.cell 2
      have x2 := bX4.cell 2
      simp only [List.getElem?_toArray, List.getElem?_cons_zero, List.getElem?_cons_succ] at y2 x2
      have bU := Blk.new w4 40 (Ne.pcL ⟨pp, px, (k : Int) - 1, pt⟩).toArray
      have bD5 := bD4.alloc (.cells (Ne.pcL ⟨pp, px, (k : Int) - 1, pt⟩).toArray 40)
      have bX5 := bX4.alloc (.cells (Ne.pcL ⟨pp, px, (k : Int) - 1, pt⟩).toArray 40)
      have bY5 := bY4.alloc (.cells (Ne.pcL ⟨pp, px, (k : Int) - 1, pt⟩).toArray 40)
      have hB5 := hB4.alloc hB4.size (.cells (Ne.pcL ⟨pp, px, (k : Int) - 1, pt⟩).toArray 40)
      have b5 := (Below.refl w4.heap.size w4).alloc (Nat.le_refl _) (.cells (Ne.pcL ⟨pp, px, (k : Int) - 1, pt⟩).toArray 40)
      have HP5 := Lib.hid (HP4.out.below b5)
      have HF5 := Lib.hid (HF4.out.below b5)
      have HL5 := Lib.hid (HL4.out.below b5)
      have HW4 := Lib.hid bY4.lt
      clear bD4 bX4 bY4 HP4 HF4 HL4 b5
      have hb1 := desk_board bD5.range
      have rU := bU.range
      have q4 := bD5.cell 4
      have q5 := bD5.cell 5
      simp only [List.getElem?_toArray, List.getElem?_cons_zero, List.getElem?_cons_succ] at q4 q5
      go_wp2_with (first | refine ldm_bo hb1 (by rfl) _ rfl rfl ?_ | refine ldm_pc rY (by rfl) _ rfl rfl ?_ | refine ldm_pc rU (by rfl) _ rfl rfl (Hid.out ?_))
      refine Lib.hid ?_
      go_wp2_with fail
      refine (HFU.out _ HF5.out HP5.out HL5.out).mono ?_
      rintro e w6 ⟨rfl, b6⟩
      have hB6 := hB5.trans (b6.mono hB5.size)
      have bX6 := bX5.below b6 bX5.lt
      have bY6 := bY5.below b6 bY5.lt
      have bU6 := bU.below b6 bU.lt
      clear hb1 rY rU q4 q5 bD5 bX5 bY5 bU b6 HP5 HF5 HL5 y2 x2
      have bY7 : Blk (w6.setCell ⟨w2.heap.size, 2, none⟩ (.int .i64 py)) w2.heap.size 40 (Ne.pcL ⟨pp, px, py, pt⟩).toArray := bY6.set_ 2 (.int .i64 py)
      have hws : w.heap.size + 1 < w2.heap.size := HWS.out
      have hw24 : w2.heap.size < w4.heap.size := HW4.out
      have bX7 := bX6.far (p := ⟨w2.heap.size, 2, none⟩) (by show w.heap.size + 1 ≠ w2.heap.size; omega) (.int .i64 py)
      have bU7 := bU6.far (p := ⟨w2.heap.size, 2, none⟩) (by show w4.heap.size ≠ w2.heap.size; omega) (.int .i64 py)
      have hB7 := hB6.setCell (p := ⟨w2.heap.size, 2, none⟩) (by show w.heap.size ≤ w2.heap.size; omega) (.int .i64 py)
      have x2 := bX6.cell 2
      have y2 := bY6.cell 2
      have f2 := bY6.frozen 2
      have u2 := bU7.cell 2
      simp only [List.getElem?_toArray, List.getElem?_cons_zero, List.getElem?_cons_succ] at y2 x2 u2
      have rX := bX7.range
      have rY := bY7.range
      have hq := run_eqPc ⟨pp, px, py, pt⟩ ⟨pp, px, py, pt⟩ true (by simp)
      clear bX6 bY6 bU6 bX7 bY7 bU7 hws hw24
      cases r2 with
      | false =>
        go_wp2_with (first | refine ldm_pc rY (by rfl) _ rfl rfl ?_ | refine ldm_pc rX (by rfl) _ rfl rfl (Hid.out ?_))
        refine Lib.hid ?_
        go_wp2_with fail
        refine (awake_any _).mono ?_
        rintro e w10 ⟨rfl, b10⟩
        go_wp2
        go_ret
        exact ⟨rfl, hB7.trans (b10.mono hB7.size)⟩
      | true =>
        have hk0 : k = 0 := by rcases HLOW.out with h | h; exact h; cases h
        have d9 : decide ((k : Int) - 1 < 0) = true := by subst hk0; rfl
        clear hk0
        go_wp2_with (first | refine ldm_pc rY (by rfl) _ rfl rfl ?_ | refine ldm_pc rX (by rfl) _ rfl rfl (Hid.out ?_))
        refine Lib.hid ?_
        go_wp2_with fail
        refine (awake_any _).mono ?_
        rintro e w10 ⟨rfl, b10⟩
        go_wp2
        go_ret
        exact ⟨rfl, hB7.trans (b10.mono hB7.size)⟩
end Go.Proofs.Ytlikmlhlfbdchaa
