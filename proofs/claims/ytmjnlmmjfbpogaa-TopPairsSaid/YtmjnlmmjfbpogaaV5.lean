/- A map from numbers to slices that the call makes; byColour. -/
import Derived.Test.YtmjnlmmjfbpogaaV4
import Derived.Maps.AppendAt
import Derived.OrdersHeld
import Derived.RegionTactic
namespace Go.Proofs.Ytmjnlmmjfbpogaa
open Go.RowKit Go.Shelf Go.Sort Go.Lib

/-- how a value is read: as itself -/
def itself (v : Value) : Option (DataW Value × List MemPlace) := some (.held v, [])
/-- block b is a map from numbers to values, of at most n entries -/
def MapV (W : World) (b n : Nat) (f : Int → Value) : Prop :=
  ∃ D : DataW Value, W.ownsMap Try.prog 3 itself b n D ∧ ∀ x : Int, (Lit.int .i64 x).wf = true → D.atKey (.int .i64 x) (.held (.slice none 0 0)) = .held (f x)
theorem MapV.kept {W W' : World} {b n : Nat} {f : Int → Value} {row : Option Nat} (h : MapV W b n f) (hg : W.grownBy W' row) (hne : some b ≠ row) : MapV W' b n f := by
  obtain ⟨D, h1, h2⟩ := h
  exact ⟨D, h1.kept hg hne, h2⟩
theorem MapV.below {W W' : World} {b n : Nat} {f : Int → Value} (h : MapV W b n f) (hb : Below W.heap.size W W') : MapV W' b n f := h.kept (grown_none hb) (by simp)
theorem MapV.lt {W : World} {b n : Nat} {f : Int → Value} (h : MapV W b n f) : b < W.heap.size := by
  obtain ⟨D, h1, h2⟩ := h
  exact h1.lt
theorem MapV.mono {W : World} {b n m : Nat} {f : Int → Value} (h : MapV W b n f) (hm : n ≤ m) : MapV W b m f := by
  obtain ⟨D, h1, h2⟩ := h
  exact ⟨D, h1.mono hm, h2⟩
theorem MapV.made (W : World) : MapV (W.alloc (.map #[] 0)) W.heap.size 0 (fun _ => .slice none 0 0) := ⟨_, World.ownsMap_made W _ _ _, fun _ _ => rfl⟩
theorem zeroRow (w : World) : (zeroValue 85).run Try.prog w = .ok (.slice none 0 0) w := by kernel_rfl
theorem MapV.look {W : World} {b n : Nat} {f : Int → Value} (h : MapV W b n f) {x : Int} (hx : (Lit.int .i64 x).wf = true) :
    (Instr.lookup 87 (.map (some b)) (.int .i64 x) false).run Try.prog W = .ok (f x) W := by
  obtain ⟨D, h1, h2⟩ := h
  obtain ⟨v, ps, hrun, hv⟩ := h1.lookup keyedInt Try.underlying87 (z := .slice none 0 0) (zeroRow W) (zd := .held (.slice none 0 0)) (zp := []) rfl (Go.Maps.keyOf_int_mk Try.underlying3 hx)
  rw [h2 x hx] at hv
  cases hv
  exact hrun
theorem MapV.store {W : World} {b n : Nat} {f : Int → Value} (h : MapV W b n f) (hn : n < maxLen) {x : Int} (v : Value) (hx : (Lit.int .i64 x).wf = true) :
    ∃ W', (Instr.mapUpdate 87 (.map (some b)) (.int .i64 x) v).run Try.prog W = .ok () W' ∧ MapV W' b (n + 1) (fun y => if y = x then v else f y) ∧ W.grownBy W' (some b) := by
  obtain ⟨D, h1, h2⟩ := h
  obtain ⟨W', hrun, h3, h4⟩ := h1.update keyedInt Try.underlying87 hn (Go.Maps.keyOf_int_mk Try.underlying3 hx) (val := v) (d := .held v) (ps := []) rfl
  refine ⟨W', hrun, ⟨_, h3, fun y hy => ?_⟩, h4⟩
  by_cases e : y = x
  · subst e
    rw [Go.Maps.atKey_put_same h1.isMap (keyedInt.key (Go.Maps.keyOf_int_mk Try.underlying3 hx))]
    simp
  · rw [Go.Maps.atKey_put_other (by intro h; cases h; exact e rfl), h2 y hy]
    simp [e]

/-- block b is a map of slices of the call's own: at c the rows of G c -/
structure Grp (l : List Pl.Tm) (W : World) (B b n : Nat) (f : Int → Value) (G : Int → List Nat) : Prop where
  map : MapV W b n f
  at' : B ≤ b
  row : ∀ c, W.ownsRow (b + 1) 94 5 (f c) (G c).length (flt (pc l) (G c))
  apart : ∀ c c', c ≠ c' → (f c).ownBlock = (f c').ownBlock → (f c).ownBlock = none
theorem Grp.below {l : List Pl.Tm} {W W' : World} {B b n : Nat} {f : Int → Value} {G : Int → List Nat} (h : Grp l W B b n f G) (hb : Below W.heap.size W W') : Grp l W' B b n f G :=
  ⟨h.map.below hb, h.at', fun c => own_keep (h.row c) hb, h.apart⟩
theorem Grp.made (l : List Pl.Tm) (W : World) : Grp l (W.alloc (.map #[] 0)) W.heap.size W.heap.size 0 (fun _ => .slice none 0 0) (fun _ => []) :=
  ⟨MapV.made W, Nat.le_refl _, fun _ => World.ownsRow_nil _ _ _ _, fun _ _ _ _ => rfl⟩
theorem Grp.drew {l : List Pl.Tm} {W : World} {B b n : Nat} {f : Int → Value} {G : Int → List Nat} (h : Grp l W B b n f G) : Grp l W.drew B b n f G := ⟨h.map, h.at', h.row, h.apart⟩
/-- one more element at x -/
theorem Grp.step {l : List Pl.Tm} {W W1 W2 : World} {B b n : Nat} {f : Int → Value} {G : Int → List Nat} (h : Grp l W B b n f G) {x : Int} {i : Nat} {v' : Value}
    (hown : W1.ownsRow (b + 1) 94 5 v' ((G x).length + 1) (flt (pc l) (G x) ++ pc l i)) (hg1 : W.grownBy W1 (f x).ownBlock) (hloc : v'.ownBlock = (f x).ownBlock ∨ ∃ s, v'.ownBlock = some s ∧ W.heap.size ≤ s)
    (hm : MapV W2 b (n + 1) (fun y => if y = x then v' else f y)) (hg2 : W1.grownBy W2 (some b)) :
    Grp l W2 B b (n + 1) (fun y => if y = x then v' else f y) (fun y => if y = x then G x ++ [i] else G y) := by
  have hb : ∀ {w : World} {v : Value} {m : Nat} {xs : List Value}, w.ownsRow (b + 1) 94 5 v m xs → v.ownBlock = none ∨ v.ownBlock ≠ some b := fun {w v m xs} hr => by
    cases e : v.ownBlock with
    | none => exact .inl rfl
    | some s =>
      refine .inr fun he => ?_
      cases he
      have := (hr.lt b e).1
      omega
  refine ⟨hm, h.at', fun c => ?_, fun c c' hne he => ?_⟩
  · by_cases e : c = x
    · subst e
      simp only [if_true, List.length_append, List.length_cons, List.length_nil, flt_append, flt_one]
      exact hown.kept hg2 (hb hown)
    · simp only [if_neg e]
      have h1 : (f c).ownBlock = none ∨ (f c).ownBlock ≠ (f x).ownBlock := by
        by_cases e2 : (f c).ownBlock = (f x).ownBlock
        · exact .inl (h.apart c x e e2)
        · exact .inr e2
      have h2 := (h.row c).kept hg1 h1
      exact h2.kept hg2 (hb h2)
  · have hlt : ∀ c s, (f c).ownBlock = some s → s < W.heap.size := fun c s e => ((h.row c).lt s e).2
    by_cases e : c = x <;> by_cases e' : c' = x
    · exact absurd (e.trans e'.symm) hne
    · simp only [if_pos e, if_neg e'] at he ⊢
      rcases hloc with hl | ⟨s, hl, hs⟩
      · rw [hl] at he ⊢
        exact h.apart x c' (fun k => e' k.symm) he
      · rw [hl] at he
        have := hlt c' s he.symm
        omega
    · simp only [if_neg e, if_pos e'] at he ⊢
      rcases hloc with hl | ⟨s, hl, hs⟩
      · rw [hl] at he
        exact h.apart c x e he
      · rw [hl] at he
        have := hlt c s he
        omega
    · simp only [if_neg e, if_neg e'] at he ⊢
      exact h.apart c c' hne he

/-- a temple with its place is read whole, wherever it lies -/
theorem info94' : (Try.prog.info? 94).map (·.size) = some 5 := by kernel_rfl
theorem ldm_pc {ops : Array Oper} {rest : List Oper} {o : Oper} {a : Act} {w : World} {Q : Exit → Act → World → Prop} {b off : Nat} {t : Pl.Tm} {i : Nat} (hr : w.rangeAt b off (pcL t i)) (hw : Region.wanted o (yielded ops a.tmps) = true) (x : Operand) (ho : o.op = .load 94 x)
    (hx : a.eval x = .pointer (some ⟨b, off, none⟩)) (h : wpList Try.prog ops Q rest (a.put o.dst (.agg (pcL t i).toArray)) w) : wpList Try.prog ops Q (o :: rest) a w :=
  wpList_wanted hw fun _ hK => wp_load_mid 94 x ho b off hx (pcL t i) _ hr Try.underlying94 rfl info94' (hK _ _ h)

/-- those of a list that are on a side and have a colour -/
def sel (l : List Pl.Tm) (side : Int) (os : List Nat) (c : Int) : List Nat := os.filter fun i => decide ((Pl.at' l i).side = side) && decide ((Pl.at' l i).col = c)
theorem sel_yes {l : List Pl.Tm} {side : Int} {os : List Nat} {k : Nat} (hk : k < os.length) (hs : (Pl.at' l os[k]).side = side) :
    sel l side (os.take (k + 1)) = fun y => if y = (Pl.at' l os[k]).col then sel l side (os.take k) (Pl.at' l os[k]).col ++ [os[k]] else sel l side (os.take k) y := by
  funext y
  unfold sel
  rw [List.take_succ_eq_append_getElem hk, List.filter_append]
  by_cases e : y = (Pl.at' l os[k]).col
  · subst e; simp [hs]
  · simp [hs, e, Ne.symm e]
theorem sel_no {l : List Pl.Tm} {side : Int} {os : List Nat} {k : Nat} (hk : k < os.length) (hs : (Pl.at' l os[k]).side ≠ side) : sel l side (os.take (k + 1)) = sel l side (os.take k) := by
  funext y
  unfold sel
  rw [List.take_succ_eq_append_getElem hk, List.filter_append]
  simp [hs]
theorem sel_len {l : List Pl.Tm} {side : Int} {os : List Nat} {c : Int} : (sel l side os c).length ≤ os.length := List.length_filter_le ..

theorem wpOp_go {P : Program} {ops : Array Oper} {Q : Exit → Act → World → Prop} {i : Nat} {o : Oper} {K : Act → World → Prop} {a : Act} {w : World} (ho : ops[i]? = some o) (hw : Region.wanted o (yielded ops a.tmps) = true)
    (h : ∀ K' : Act → World → Prop, (∀ a w, K a w → K' a w) → Oper.wp P o a w K' Q) : wpOp P ops Q i K a w :=
  wpOp_step ho fun K' hK => by rw [if_pos hw]; exact h K' hK
/-- append and a map's store as one step of a region -/
theorem step_append_run {P : Program} {o : Oper} {a : Act} {w w1 : World} {K : Act → World → Prop} {Q : Exit → Act → World → Prop} (s x : Operand) (t : TypeId) (ho : o.op = .call { callee := .builtin .append, args := #[s, x], argTypes := #[t, t] })
    (v sl v' : Value) (hs : a.eval s = v) (hx : a.eval x = sl) (hr : (Builtin.append_ #[t, t] o.type #[v, sl]).run P w = .ok v' w1) (hK : K (a.put o.dst v') w1) : o.wp P a w K Q := by
  unfold Oper.wp execOp
  simp only [ho, resolve, invoke, builtin, Sem.run_bind, Sem.run_pure, Result.andThen_ok, List.map_toArray, List.map_cons, List.map_nil, hs, hx, hr]
  exact hK
theorem step_update_run {P : Program} {o : Oper} {a : Act} {w w1 : World} {K : Act → World → Prop} {Q : Exit → Act → World → Prop} (m x v : Operand) (t : TypeId) (ho : o.op = Op.mapUpdate t m x v)
    (mv xv vv : Value) (hm : a.eval m = mv) (hx : a.eval x = xv) (hv : a.eval v = vv) (hr : (Instr.mapUpdate t mv xv vv).run P w = .ok () w1) (hK : K (a.put o.dst undef) w1) : o.wp P a w K Q := by
  unfold Oper.wp
  simp [execOp, ho, hm, hx, hv, hr, Result.andThen]
  exact hK
theorem Blk.grown {w w' : World} {g : Nat} {t : TypeId} {cs : Array Value} {row : Option Nat} (h : Blk w g t cs) (hg : w.grownBy w' row) (hne : row ≠ some g) : Blk w' g t cs := (hg.block g h.lt (fun e => hne e.symm)).trans h
theorem Blk.ldp {w : World} {g : Nat} {t : Pl.Tm} {i : Nat} (b : Blk w g 94 (pcL t i).toArray) : (Instr.loadAt 94 (.pointer (some ⟨g, 0, none⟩))).run Try.prog w = .ok (.agg (pcL t i).toArray) w := by
  simp only [Instr.loadAt, Instr.sureAddr, Sem.run_bind, Sem.run_pure, Result.andThen_ok]
  exact run_loadVar_row w g 94 94 (pcL t i).toArray (0, 0) _ b Try.underlying94 rfl (by kernel_rfl)

set_option maxRecDepth 100000 in
set_option maxHeartbeats 4000000 in
theorem bycolour_any (A : Option Addr) (l : List Pl.Tm) (os : List Nat) (c n : Nat) (hn : os.length = n) (hl : n ≤ 60) (hv : ∀ i, i ∈ os → Pl.Vt (Pl.at' l i)) (side : Int) (w : World) (hI : Rows (pc l) 5 w A os) :
    Calls Try.prog 74 #[.slice A n c, .int .i64 side] w fun e w' => ∃ b f, e = .returned (.map (some b)) ∧ Grp l w' w.heap.size b n f (sel l side os) ∧ Below w.heap.size w w' := by
  have HI := Lib.hid hI
  have HV := Lib.hid hv
  have HN := Lib.hid hn
  clear hI hv hn
  obtain ⟨i0, hi, hz0, hz1, hz2⟩ := info_parts info94
  have hB0 := (Below.refl w.heap.size w).alloc (Nat.le_refl _) (.map #[] 0)
  have hG0 := Grp.made l w
  have hmm := @run_makeMap Try.prog
  go_enter Try.func74, Try.ntmps74
  go_wp2
  clear hmm
  go_loopw [7, 11] (fun _ i wr => ∃ k : Nat, ∃ f, k ≤ n ∧ i = .int .i64 k ∧ Grp l wr w.heap.size w.heap.size k f (sel l side (os.take k)) ∧ Below w.heap.size w wr) (fun _ i _ => n - (intOf i).toNat)
  case atStart => exact ⟨0, _, Nat.zero_le _, rfl, hG0, hB0⟩
  case round =>
    clear hB0 hG0
    obtain ⟨k, f, hk, rfl, hG, hB⟩ := hrel
    obtain ⟨wo, rfl⟩ : ∃ wo, wo = wr := ⟨_, rfl⟩
    by_cases hlt : k < n
    · have hko : k < os.length := by rw [HN.out]; exact hlt
      obtain ⟨bz, oz, rfl, hbz, hcz⟩ := HI.out.open (by omega)
      have hck := rangeAt_below (hcz k hko) hbz hB
      have HVk := Lib.hid (HV.out _ (List.getElem_mem hko))
      have HY := Lib.hid (sel_yes (l := l) (side := side) hko)
      have HNo := Lib.hid (sel_no (l := l) (side := side) hko)
      clear hcz
      generalize hE : os[k] = ix at *
      have hB1 := hB.alloc hB.size (.cells (pcL (Pl.at' l ix) ix).toArray 94)
      have hG1 := hG.below ((Below.refl wo.heap.size wo).alloc (Nat.le_refl _) (.cells (pcL (Pl.at' l ix) ix).toArray 94))
      have bE := Blk.new wo 94 (pcL (Pl.at' l ix) ix).toArray
      have hr := bE.range
      have q1 := bE.cell 1
      clear hE
      by_cases hs : (Pl.at' l ix).side = side
      · have hs1 : ((Pl.at' l ix).side == side) = true := by simp [hs]
        have HS := Lib.hid hs
        clear hs
        go_wp2_with (first | refine ldm_pc hck rfl _ rfl rfl ?_)
        have HGo := Lib.hid hG
        clear hG hB hck bE hr q1 HNo hG1
        obtain ⟨T, hT⟩ : ∃ T, T = wo.heap.size := ⟨_, rfl⟩
        have HY' := Lib.hid (HY.out HS.out)
        refine Code.wp_mono (Q := fun e' a' w' => e' = .normal ∧ ∃ y20 y21 y22 y23 y24 y25 y26 y27 y28 y29 y30 y31 f', a' = { tmps := #[.slice (some ⟨bz, oz, none⟩) n c, .int .i64 side, undef, undef, .map none, .map (some w.heap.size), undef, .pointer (some ⟨T, 0, none⟩), .map (some w.heap.size), .slice (some ⟨bz, oz, none⟩) n c, .int .i64 n, .int .i64 k, .bool true, .pointer (some ⟨bz, oz + k * 5, none⟩), .agg (pcL (Pl.at' l ix) ix).toArray, .pointer (some ⟨T, 0, none⟩), .pointer (some ⟨T, 1, none⟩), .int .i64 (Pl.at' l ix).side, .int .i64 side, .bool true, y20, y21, y22, y23, y24, y25, y26, y27, y28, y29, y30, y31, u32, undef], defers := [] } ∧ Grp l w' w.heap.size w.heap.size (k + 1) f' (sel l side (os.take (k + 1))) ∧ Below w.heap.size w w') ?goon ?region
        case goon =>
          rintro _ _ w3 ⟨rfl, y20, y21, y22, y23, y24, y25, y26, y27, y28, y29, y30, y31, f', rfl, hG3, hB3⟩
          go_wp2_with fail
          go_roundw
          case rel => exact ⟨k + 1, f', by omega, by go_num, hG3, hB3⟩
          case measure => simp [intOf]; omega
        case region =>
          rw [HY'.out]
          have hvt := HVk.out
          have hwf : Hid ((Lit.int .i64 (Pl.at' l ix).col).wf = true) := Lib.hid (WalkArith.wf_i64 (by have := hvt.c1; have := hvt.c2; omega))
          have hTb : w.heap.size < T := by rw [hT]; exact HGo.out.map.lt
          have hTf : Hid (∀ c s, (f c).ownBlock = some s → s < T) := Lib.hid (fun c s e => by rw [hT]; exact ((HGo.out.row c).lt s e).2)
          have hlen : (sel l side (os.take k) (Pl.at' l ix).col).length ≤ 60 := Nat.le_trans sel_len (by rw [List.length_take]; omega)
          have hG1 : Grp l (wo.alloc (.cells (pcL (Pl.at' l ix) ix).toArray 94)) w.heap.size w.heap.size k f (sel l side (os.take k)) := HGo.out.below ((Below.refl wo.heap.size wo).alloc (Nat.le_refl _) _)
          have bE : Blk (wo.alloc (.cells (pcL (Pl.at' l ix) ix).toArray 94)) T 94 (pcL (Pl.at' l ix) ix).toArray := by rw [hT]; exact Blk.new wo _ _
          rw [← hT]
          clear hT HGo HY HY' HVk hvt HS hs1 HV HI
          refine wp_region_held (S := fun W => Blk W T 94 (pcL (Pl.at' l ix) ix).toArray) (by kernel_rfl) ?_
          change wpAnyH _ _ _ _ _ _ _ _ (World.drew _)
          replace bE := bE.drew
          replace hG1 := hG1.drew
          replace hB1 := hB1.drew
          generalize (wo.alloc (.cells (pcL (Pl.at' l ix) ix).toArray 94)).drew = W at *
          refine wpAnyH_take (i := 0) (v := ?_) rfl (by kernel_rfl) (by decide +kernel) (by decide +kernel) (fun _ _ _ h => by cases h.1) (Or.inl ⟨by rfl, ?_⟩) bE ?_
          rotate_left
          · intro w' _; first | (go_simp; done) | (go_simp; with_reducible rfl)
          refine wpAnyH_take (i := 1) (v := ?_) rfl (by kernel_rfl) (by decide +kernel) (by decide +kernel) (fun _ _ _ h => by cases h.1) (Or.inl ⟨by rfl, ?_⟩) bE ?_
          rotate_left
          · intro w' _; first | (go_simp; done) | (go_simp; with_reducible rfl)
          refine wpAnyH_take (i := 2) (v := ?_) rfl (by kernel_rfl) (by decide +kernel) (by decide +kernel) (fun _ _ _ h => by cases h.1) (Or.inl ⟨by rfl, ?_⟩) bE ?_
          rotate_left
          · intro w' _; first | (go_simp; done) | (go_simp; with_reducible rfl)
          refine wpAnyH_take (i := 3) (v := ?_) rfl (by kernel_rfl) (by decide +kernel) (by decide +kernel) (fun _ _ _ h => by cases h.1) (Or.inl ⟨by rfl, ?_⟩) bE ?_
          rotate_left
          · intro w' hS; have q3 := hS.cell 3; first | (go_simp; done) | (go_simp; with_reducible rfl)
          refine wpAnyH_take (i := 4) (v := ?_) rfl (by kernel_rfl) (by decide +kernel) (by decide +kernel) (fun _ _ _ h => by cases h.1) (Or.inl ⟨by rfl, ?_⟩) bE ?_
          rotate_left
          · intro w' _; first | (go_simp; done) | (go_simp; with_reducible rfl)
          refine wpAnyH_take (i := 5) (v := ?_) rfl (by kernel_rfl) (by decide +kernel) (by decide +kernel) (fun _ _ _ h => by cases h.1) (Or.inl ⟨by rfl, ?_⟩) bE ?_
          rotate_left
          · intro w' _; first | (go_simp; done) | (go_simp; with_reducible rfl)
          refine wpAnyH_take (i := 6) (v := ?_) rfl (by kernel_rfl) (by decide +kernel) (by decide +kernel) (fun _ _ _ h => by cases h.1) (Or.inl ⟨by rfl, ?_⟩) bE ?_
          rotate_left
          · intro w' _; first | (go_simp; done) | (go_simp; with_reducible rfl)
          refine wpAnyH_take (i := 7) (v := ?_) rfl (by kernel_rfl) (by decide +kernel) (by decide +kernel) (fun _ _ _ h => by cases h.1) (Or.inl ⟨by rfl, ?_⟩) bE ?_
          rotate_left
          · intro w' hS; have q3 := hS.cell 3; first | (go_simp; done) | (go_simp; with_reducible rfl)
          refine wpAnyH_take (i := 9) (v := ?_) rfl (by kernel_rfl) (by decide +kernel) (by decide +kernel) (fun _ _ _ h => by cases h.1) (Or.inl ⟨by rfl, ?_⟩) bE ?_
          rotate_left
          · intro w' hS; have q0 := hS.cell 0; have q1 := hS.cell 1; have q2 := hS.cell 2; have q3 := hS.cell 3; have q4 := hS.cell 4; first | (go_simp; done) | (go_simp; with_reducible rfl)
          have HK := Lib.hid (hG1.map.look hwf.out)
          have hfb : (f (Pl.at' l ix).col).ownBlock ≠ some T := fun e => Nat.lt_irrefl _ (hTf.out _ _ e)
          obtain ⟨v', w1, hr, hown', hgrow, _, hloc⟩ := run_append_own_at (P := Try.prog) (W.alloc (.cells (pcL (Pl.at' l ix) ix).toArray 94)) (w.heap.size + 1) 85 85 94 i0 _ 5 40 Try.underlying85 hi hz0 hz1 hz2 rfl (by decide) (f (Pl.at' l ix).col) _ _ ((hG1.row (Pl.at' l ix).col).alloc _) ⟨W.heap.size, 0, none⟩ 1 1 (pcL (Pl.at' l ix) ix) rfl (new_cells _ _ _) (pcL_one _ _) (by unfold maxLen; omega) (by omega) (by have := hG1.map.lt; simp; omega)
          have hg1 : W.grownBy w1 (f (Pl.at' l ix).col).ownBlock := (World.grownBy_alloc W _ _).trans hgrow
          have hm1 := hG1.map.kept hg1 (by
            cases e : (f (Pl.at' l ix).col).ownBlock with
            | none => simp
            | some s => have := ((hG1.row (Pl.at' l ix).col).lt s e).1; simp; omega)
          obtain ⟨w2, hrun, hm2, hg2⟩ := hm1.store (by unfold maxLen; omega) v' hwf.out
          have hG2 := hG1.step hown' hg1 (hloc.imp id (fun h => ⟨_, h, by simp⟩)) hm2 hg2
          have bA := bE.alloc (.cells (pcL (Pl.at' l ix) ix).toArray 94)
          have b1 := bE.grown hg1 hfb
          have b2 := b1.grown hg2 (by simp; omega)
          have hB2 : Below w.heap.size w w2 := (hB1.grown hg1 hB1.size (fun s e => by have := ((hG1.row (Pl.at' l ix).col).lt s e).1; omega)).grown hg2 (Nat.le_trans hB1.size hg1.size) (fun s e => by cases e; exact Nat.le_refl _)
          have HB2 := Lib.hid hB2
          have HG2 := Lib.hid hG2
          have HR := Lib.hid hr
          have HRU := Lib.hid hrun
          have HKA := Lib.hid ((hG1.below ((Below.refl W.heap.size W).alloc (Nat.le_refl _) (.cells (pcL (Pl.at' l ix) ix).toArray 94))).map.look hwf.out)
          clear hB2 hG2 hr hrun hown' hgrow hloc hg1 hm1 hm2 hg2 hG1 hB1 hTf hTb hfb hlen hi hz0 hz1 hz2
          refine wpAnyH_all (rs := [8, 10]) (by decide +kernel) (by simp) ?_
          intro i hi
          simp only [List.mem_cons, List.not_mem_nil, or_false] at hi
          rcases hi with rfl | rfl
          · refine wpOp_go rfl rfl (fun K hK => ?_)
            have hlk := HK.out
            go_simp
            refine hK _ _ ⟨bE, ?_⟩
            clear hK K hlk
            refine wpAnyH_all (rs := [10]) (by decide +kernel) (by simp) ?_
            intro i hi
            obtain rfl := List.mem_singleton.1 hi
            refine wpOp_go rfl rfl (fun K hK => ?_)
            go_simp
            refine hK _ _ ⟨bA, ?_⟩
            clear hK K
            refine wpAnyH_all (rs := [11]) (by decide +kernel) (by simp) ?_
            intro i hi
            obtain rfl := List.mem_singleton.1 hi
            refine wpOp_go rfl rfl (fun K hK => ?_)
            refine step_append_run (.tmp 28) (.tmp 30) 85 rfl _ _ _ rfl rfl HR.out (hK _ _ ⟨b1, ?_⟩)
            clear hK K
            refine wpAnyH_all (rs := [12]) (by decide +kernel) (by simp) ?_
            intro i hi
            obtain rfl := List.mem_singleton.1 hi
            refine wpOp_go rfl rfl (fun K hK => ?_)
            refine step_update_run (.tmp 20) (.tmp 23) (.tmp 31) 87 rfl _ _ _ rfl rfl rfl HRU.out (hK _ _ ⟨b2, ?_⟩)
            clear hK K
            refine wpAnyH_done (by decide +kernel) ?_ _
            exact ⟨rfl, _, _, _, _, _, _, _, _, _, _, _, _, _, rfl, HG2.out, HB2.out⟩
          · refine wpOp_go rfl rfl (fun K hK => ?_)
            go_simp
            refine hK _ _ ⟨bA, ?_⟩
            clear hK K
            refine wpAnyH_all (rs := [8]) (by decide +kernel) (by simp) ?_
            intro i hi
            obtain rfl := List.mem_singleton.1 hi
            refine wpOp_go rfl rfl (fun K hK => ?_)
            have hlk := HKA.out
            go_simp
            refine hK _ _ ⟨bA, ?_⟩
            clear hK K hlk
            refine wpAnyH_all (rs := [11]) (by decide +kernel) (by simp) ?_
            intro i hi
            obtain rfl := List.mem_singleton.1 hi
            refine wpOp_go rfl rfl (fun K hK => ?_)
            refine step_append_run (.tmp 28) (.tmp 30) 85 rfl _ _ _ rfl rfl HR.out (hK _ _ ⟨b1, ?_⟩)
            clear hK K
            refine wpAnyH_all (rs := [12]) (by decide +kernel) (by simp) ?_
            intro i hi
            obtain rfl := List.mem_singleton.1 hi
            refine wpOp_go rfl rfl (fun K hK => ?_)
            refine step_update_run (.tmp 20) (.tmp 23) (.tmp 31) 87 rfl _ _ _ rfl rfl rfl HRU.out (hK _ _ ⟨b2, ?_⟩)
            clear hK K
            refine wpAnyH_done (by decide +kernel) ?_ _
            exact ⟨rfl, _, _, _, _, _, _, _, _, _, _, _, _, _, rfl, HG2.out, HB2.out⟩
      · have hs1 : ((Pl.at' l ix).side == side) = false := by simp [hs]
        have HS := Lib.hid hs
        clear hs
        go_wp2_with (first | refine ldm_pc hck rfl _ rfl rfl ?_)
        go_roundw
        case rel => exact ⟨k + 1, f, by omega, by go_num, by rw [HNo.out HS.out]; exact ⟨hG1.map.mono (Nat.le_succ _), hG1.at', hG1.row, hG1.apart⟩, hB1⟩
        case measure => simp [intOf]; omega
    · obtain rfl : k = n := by omega
      have HG := Lib.hid hG
      clear hG
      go_wp2
      go_ret
      refine ⟨_, f, rfl, ?_, hB⟩
      have := HG.out
      rw [List.take_of_length_le (by rw [HN.out]; exact Nat.le_refl _)] at this
      exact this
end Go.Proofs.Ytmjnlmmjfbpogaa
