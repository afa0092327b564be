/- Stab. -/
import Derived.Test.YtghbipipehglfaaDoorA11
import Derived.Test.YtghbipipehglfaaDoorA8s
namespace Go.Proofs.YtghbipipehglfaaDoor
open Go.RowKit Go.Shelf
attribute [local go_sem] Oper.semAt_some

/-- what is chosen when these indexes have come -/
def stF (x : Int) (hx : 0 ≤ x) (zs : List Int) (pre : List Nat) : List Int := (Pl.stabW x hx).all (pre.map fun i => zs.getD i 0)
theorem stF_snoc (x : Int) (hx : 0 ≤ x) (zs : List Int) (pre : List Nat) (i : Nat) : stF x hx zs (pre ++ [i]) = (Pl.stabW x hx).one (stF x hx zs pre) (zs.getD i 0) := by
  unfold stF
  rw [List.map_append, List.map_singleton, Pl.Way.all_snoc]
theorem stF_len (x : Int) (hx : 0 ≤ x) (zs : List Int) (pre : List Nat) : (stF x hx zs pre).length ≤ pre.length := by
  have := (Pl.stabW x hx).all_len (pre.map fun i => zs.getD i 0)
  simpa [stF] using this
theorem upto_rev (zs : List Int) : (upto (fun j => zs.length - 1 - j) zs.length).map (fun i => zs.getD i 0) = zs.reverse := by
  refine List.ext_getElem? fun m => ?_
  by_cases hm : m < zs.length
  · rw [List.getElem?_reverse hm, X_get (show zs.length - 1 - m < zs.length by omega)]
    simp [upto, hm]
  · rw [List.getElem?_eq_none (by simp [upto]; omega), List.getElem?_eq_none (by simp; omega)]
theorem stF_all (x : Int) (hx : 0 ≤ x) (vs : List Int) : stF x hx (Pl.srt vs) (upto (fun j => (Pl.srt vs).length - 1 - j) (Pl.srt vs).length) = Pl.stabT x vs := by
  unfold stF
  rw [upto_rev, Pl.stabT_eq hx]
/-- what Stab gives -/
def stabV (x : Int) (vs : List Int) : List Int := if Pl.lineE vs x [] = 0 then (Pl.stabT x vs).reverse else []

theorem own_slice {W : World} {base : Nat} {e : TypeId} {size n : Nat} {v : Value} {xs : List Value} (h : W.ownsRow base e size v n xs) : ∃ A c, v = .slice A n c := by
  rcases h.2 with ⟨rfl, h0⟩ | ⟨g, cap, cur, rfl, _⟩
  · exact ⟨none, 0, by rw [h0]⟩
  · exact ⟨_, _, rfl⟩
theorem ints_of_owns' {W : World} {base n : Nat} {A : Option Addr} {c : Nat} {l zs : List Int} (h : W.ownsRow base 3 1 (.slice A n c) n (ints l)) (hn : n = zs.length) (hl : l = zs) : Ints W A zs := by
  subst hl hn
  obtain ⟨A', c', e, hI⟩ := ints_of_owns h
  cases e
  exact hI
theorem own_not_deferred {W : World} {base : Nat} {e : TypeId} {size n : Nat} {v : Value} {xs : List Value} (h : W.ownsRow base e size v n xs) {D : Nat} {o : Obj} (hK : W.heap[D]? = some o) (ho : o.isCells = false) : some D ≠ v.ownBlock := by
  rcases h.2 with ⟨rfl, _⟩ | ⟨g, cap, cur, rfl, _, hg, _⟩
  · simp [Value.ownBlock]
  · intro e'
    obtain rfl : D = g := by simpa [Value.ownBlock] using e'
    rw [hK] at hg
    cases hg
    cases ho

/-- a box takes a longer list -/
theorem box_app {W w1 : World} {n₀ B : Nat} {t e : TypeId} {size : Nat} {v v' : Value} {k m : Nat} {xs ys : List Value} {tmp : Obj}
    (hv : Boxed W B t v) (hte : t ≠ e) (hrow : W.ownsRow n₀ e size v k xs) (hn₀ : n₀ ≤ W.heap.size)
    (hown' : w1.ownsRow n₀ e size v' m ys) (hgrow : (W.alloc tmp).grownBy w1 v.ownBlock) :
    Boxed w1 B t v ∧ Boxed (w1.setCell ⟨B, 0, none⟩ v') B t v' ∧ (w1.setCell ⟨B, 0, none⟩ v').ownsRow n₀ e size v' m ys ∧ KeepsOthers W (w1.setCell ⟨B, 0, none⟩ v') ∧ Frm n₀ B W (w1.setCell ⟨B, 0, none⟩ v') := by
  have hv1 : Boxed w1 B t v := (hv.alloc tmp).kept hgrow (hv.not_row hte hrow)
  have h0 := hv.appended hte (own_mono hrow (Nat.zero_le _)) (Nat.zero_le _) (Nat.zero_le _) (own_mono hown' (Nat.zero_le _)) hgrow
  have hF1 : Frm n₀ B W (W.alloc tmp) := .of_below ((Below.refl n₀ W).alloc hn₀ tmp)
  exact ⟨hv1, hv1.set v', hown'.kept (grownBy_setCell' w1 B v') (.inr (hv1.not_row hte hown').symm), h0.2.2.2.1, (hF1.grown hgrow (by simp; omega) (fun r e => (hrow.lt r e).1)).trans (.of_only (Only.setCell B w1 0 v'))⟩

set_option maxRecDepth 100000 in
set_option maxHeartbeats 4000000 in
theorem stab_ok (A : Option Addr) (vs : List Int) (c : Nat) (x : Int) (w : World) (hI : Ints w A vs) (h0 : Pl.lineE vs x [] = 0) :
    CallsIn Fence.wide 8 Tryd.prog 51 #[.slice A vs.length c, .int .i64 x] w fun e w' => ∃ v, e = .returned (.tuple #[v, .int .i64 0]) ∧ w'.ownsRow w.heap.size 3 1 v (Pl.stabT x vs).reverse.length (ints (Pl.stabT x vs).reverse) ∧ Below w.heap.size w w' := by
  obtain ⟨i0, hi, hz0, hz1, hz2⟩ := info_parts info3
  obtain ⟨hl200, _, hvs, _, hx0, hx1⟩ := Pl.lineE_zero h0
  have HV := Lib.hid hvs
  have H0 := Lib.hid h0
  have HI := Lib.hid hI
  clear hvs h0 hI
  have hB1 : Below w.heap.size w (w.alloc (.cells #[.int .i64 x] 3)) := (Below.refl _ w).alloc (Nat.le_refl _) _
  have hB2 := hB1.alloc hB1.size (.cells #[.slice none 0 0] 31)
  have hB3 := hB2.alloc hB2.size (.cells #[.slice A vs.length c] 31)
  have hf1 : Fence.wide.fn 79 := trivial
  have hf2 : Fence.wide.fn 82 := trivial
  have hf3 : Fence.wide.fn 81 := trivial
  have hf4 : Fence.wide.fn 80 := trivial
  have hf5 : Fence.wide.fn 83 := trivial
  have hI3 := HI.out.below hB3
  have bV := Blk.new ((w.alloc (.cells #[.int .i64 x] 3)).alloc (.cells #[.slice none 0 0] 31)) 31 #[.slice A vs.length c]
  have HVal := Lib.hid (sortedv_any _ A c vs (by omega) _ bV hI3)
  have bX := ((Boxed.new w 3 (.int .i64 x)).alloc (.cells #[.slice none 0 0] 31)).alloc (.cells #[.slice A vs.length c] 31)
  have bS := (Boxed.new (w.alloc (.cells #[.int .i64 x] 3)) 31 (.slice none 0 0)).alloc (.cells #[.slice A vs.length c] 31)
  simp only [World.size_alloc] at bV bS HVal
  clear bV hI3
  refine callsIn_of_wp_marks Tryd.func51 rfl trivial ?_ rfl
  simp only [Tryd.ntmps51, List.size_toArray, List.length_cons, List.length_nil, Nat.reduceAdd, Nat.reduceSub, Array.replicate_succ, Array.replicate_zero, List.push_toArray, List.append_toArray, List.nil_append, List.cons_append]
  gi_wp2_with (first
    | (gi_at_call 79; refine (callsIn_wide.2 (checkline_any A none vs [] c 0 x _ (HI.out.below hB1) (Ints.nil _ _))).mono ?_; rw [H0.out]; rintro e w' ⟨rfl, rfl⟩)
    | (gi_at_call 82; refine (values_in _ _ _ _ _).mono ?_; rintro e w' ⟨rfl, rfl⟩)
    | (gi_at_call 81; refine (callsIn_wide.2 HVal.out).mono ?_; rintro e w4 ⟨vz, rfl, hownz, hb4⟩; obtain ⟨Az, cz, rfl⟩ := own_slice hownz)
    | (gi_at_call 80; refine (backward_in _ _ _ _ _).mono ?_; rintro e w' ⟨rfl, rfl⟩))
  have hs4 := hb4.size
  simp only [World.size_alloc] at hs4
  have hbel4 : Below w.heap.size w w4 := hB3.trans (hb4.mono (by omega))
  have bX4 : Boxed w4 w.heap.size 3 (.int .i64 x) := (hb4.block w.heap.size (by omega)).trans bX
  have bS4 : Boxed w4 (w.heap.size + 1) 31 (.slice none 0 0) := (hb4.block (w.heap.size + 1) (by omega)).trans bS
  clear bX bS hb4 hB1 hB2 hB3 HVal HI
  obtain ⟨zs, hzs⟩ : ∃ zs, zs = Pl.srt vs := ⟨_, rfl⟩
  have hzl : zs.length = vs.length := by rw [hzs, Pl.srt_len]
  have hzb : ∀ i, -1000000 ≤ zs.getD i 0 ∧ zs.getD i 0 ≤ 1000000 := fun i => by
    by_cases h : i < zs.length
    · exact HV.out _ ((Pl.srt_mem vs _).1 (hzs ▸ Pl.getD_mem h))
    · rw [List.getD_eq_getElem?_getD, List.getElem?_eq_none (by omega)]; simp
  have hII := ints_of_owns' hownz hzl.symm (by rw [hzs])
  have hAz : ∀ b off sp, Az = some ⟨b, off, sp⟩ → b < w4.heap.size ∧ w.heap.size + 1 + 1 + 1 ≤ b := fun b off sp e => by
    have := hownz.lt b (by rw [e]; rfl)
    omega
  have hSt := stF_all x hx0 vs
  rw [← hzs, hzl] at hSt
  have HST := Lib.hid hSt
  have HZL := Lib.hid hzl
  have HZB := Lib.hid hzb
  clear hzs hSt hzb hownz
  have bB := Blk.new w4 31 #[.slice Az vs.length cz]
  have hbel0 := hbel4.alloc (by omega) (.cells #[.slice Az vs.length cz] 31)
  have bX0 := bX4.alloc (.cells #[.slice Az vs.length cz] 31)
  have bS0 := bS4.alloc (.cells #[.slice Az vs.length cz] 31)
  have hI0 := hII.below ((Below.refl _ w4).alloc (Nat.le_refl _) (.cells #[.slice Az vs.length cz] 31))
  have hsz : (w4.alloc (.cells #[.slice Az vs.length cz] 31)).heap.size = w4.heap.size + 1 := by simp
  obtain ⟨W0, hW0⟩ : ∃ W0, w4.alloc (.cells #[.slice Az vs.length cz] 31) = W0 := ⟨_, rfl⟩
  rw [hW0] at bB hbel0 bX0 bS0 hI0 hsz ⊢
  clear hW0 hbel4 bX4 bS4 hII
  obtain ⟨S, hS⟩ : ∃ S, S = w4.heap.size := ⟨_, rfl⟩
  rw [← hS] at bB hsz hs4 hAz ⊢
  clear hS
  refine wpIn_rangeFunc_ownG rfl (by omega) (gf := 93) (lb := #[.pointer (some ⟨S, 0, none⟩)]) rfl trivial (enters_of Tryd.func93 (by kernel_rfl) rfl)
    (backward_stops' (8 - 1) (by omega) S (w.heap.size + 1) W0.heap.size Az cz zs vs.length HZL.out (by omega) W0 (Nat.le_refl _) (by omega) (by omega) (bB.cell 0) (fun b off sp e => by have := hAz b off sp e; omega) hI0)
    Frm.trans (frm_b (Nat.le_refl _)) (Below.refl _ _) (fun _ => rfl)
    (fun pre W => (∃ v, Boxed W (w.heap.size + 1) 31 v ∧ W.ownsRow W0.heap.size 3 1 v (stF x hx0 zs pre).length (ints (stF x hx0 zs pre)) ∧ True) ∧ Frm W0.heap.size (w.heap.size + 1) W0 W)
    (fun _ _ _ => False)
    (OwnFrom.and (Own.from (holdsRow_own W0.heap.size (w.heap.size + 1) 31 3 1 (fun pre => (stF x hx0 zs pre).length) (fun pre => ints (stF x hx0 zs pre)) (fun _ _ => True)) _) (ownFrom_frm (Nat.le_refl _) (Nat.le_refl _)))
    (fun _ _ _ _ _ hs _ _ => hs)
    ⟨⟨_, bS0, World.ownsRow_nil _ _ _ _, trivial⟩, Frm.refl _ _ _⟩
    (fun i => { tmps := #[.slice A vs.length c, .int .i64 x, undef, .pointer (some ⟨w.heap.size, 0, none⟩), .slice none 0 0, .int .i64 0, .int .i64 0, .pointer (some ⟨w.heap.size + 1, 0, none⟩), undef, .int .i64 (zs.getD i 0), .slice A vs.length c, .int .i64 x, .int .i64 0, .int .i64 0, .bool false, undef, .slice A vs.length c, .func (.func 95) #[] #[.pointer (some ⟨w.heap.size + 1 + 1, 0, none⟩)], .slice Az vs.length cz, .func (.func 93) #[] #[.pointer (some ⟨S, 0, none⟩)], .int .i64 i, .int .i64 (zs.getD i 0), undef, undef, undef, undef, undef, undef, undef, undef, undef, undef, undef, undef, undef, undef, undef, undef, undef, undef, undef, undef, undef, undef], defers := [] }) ?assign ?body ?done ?stop
  case assign =>
    intro l i W K hK
    dsimp only [bwEnc]
    gi_wp2
    exact hK
  case body =>
    rintro l pre i W ⟨⟨v, hv, hrow, _⟩, hF⟩ hlt
    have hln := stF_len x hx0 zs pre
    have HSN := Lib.hid (stF_snoc x hx0 zs pre i)
    obtain ⟨a1, a2⟩ := HZB.out i
    have hcx : W.cell? ⟨w.heap.size, 0, none⟩ = some (.int .i64 x) := (hF.cell (p := ⟨w.heap.size, 0, none⟩) (by simp; omega) (by simp)).trans bX0.cell
    have hc := hv.cell
    have hFs := hF.size
    generalize zs.getD i 0 = y at *
    generalize stF x hx0 zs pre = q at *
    rcases List.eq_nil_or_concat q with rfl | ⟨p, s, rfl⟩
    · obtain ⟨A1, c1, rfl⟩ := own_slice hrow
      have HQ : Hid ((Pl.stabW x hx0).one [] y = [y - x]) := Lib.hid (if_pos rfl)
      simp only [List.length_nil] at hrow hc hv
      gi_wp2_with (gi_at_builtin; refine wpListIn_append_own _ rfl _ _ 31 rfl W0.heap.size 3 i0 (.int .i64 0) 1 8 Tryd.underlying31 hi hz0 hz1 hz2 rfl (by decide) _ _ _ rfl (hrow.alloc _) ⟨W.heap.size, 0, none⟩ 1 1 [.int .i64 (y - x)] rfl rfl (cell_one_new _ _ _) (by simp [Value.oneCell']) (by unfold maxLen; omega) (by omega) (by simp; omega) ?_; intro v' w1 hown' hgrow _; obtain ⟨g', cap', rfl⟩ := ownsRow_succ hown'; obtain ⟨hv1, hv2, hr2, hk2, hF2⟩ := box_app hv (by decide) hrow hFs hown' hgrow; have hc1 := hv1.cell; have hf1 := hv1.frozen)
      exact ⟨hk2.from _, hF2, ⟨_, hv2, by rw [HSN.out, HQ.out]; simpa [ints] using hr2, trivial⟩, hF.trans hF2⟩
    · rw [List.concat_eq_append] at *
      have hpl : (p ++ [s]).length = p.length + 1 := by simp
      rw [hpl] at hrow hln
      obtain ⟨g, cap, rfl⟩ := ownsRow_succ hrow
      have hcs : W.cell? ⟨g, p.length, none⟩ = some (.int .i64 s) := by
        rw [hrow.cellAt p.length (by omega)]
        simp [ints]
      clear hpl
      have hpe : ((p.length : Int) + 1 == 0) = false := by simp; omega
      by_cases hys : y < s
      · have HQ : Hid ((Pl.stabW x hx0).one (p ++ [s]) y = p ++ [s] ++ [y - x]) := Lib.hid (by
          unfold Pl.Way.one; rw [List.getLast?_concat, if_pos (by simp [Pl.stabW, hys])]; rfl)
        gi_wp2_with (gi_at_builtin; refine wpListIn_append_own _ rfl _ _ 31 rfl W0.heap.size 3 i0 (.int .i64 0) 1 8 Tryd.underlying31 hi hz0 hz1 hz2 rfl (by decide) _ _ _ rfl (hrow.alloc _) ⟨W.heap.size, 0, none⟩ 1 1 [.int .i64 (y - x)] rfl rfl (cell_one_new _ _ _) (by simp [Value.oneCell']) (by unfold maxLen; omega) (by omega) (by simp; omega) ?_; intro v' w1 hown' hgrow _; obtain ⟨g', cap', rfl⟩ := ownsRow_succ hown'; obtain ⟨hv1, hv2, hr2, hk2, hF2⟩ := box_app hv (by decide) hrow hFs hown' hgrow; have hc1 := hv1.cell; have hf1 := hv1.frozen)
        exact ⟨hk2.from _, hF2, ⟨_, hv2, by rw [HSN.out, HQ.out]; simpa [ints] using hr2, trivial⟩, hF.trans hF2⟩
      · have hsy : s ≤ y := by omega
        have HQ : Hid ((Pl.stabW x hx0).one (p ++ [s]) y = p ++ [s]) := Lib.hid (by
          unfold Pl.Way.one; rw [List.getLast?_concat, if_neg (by simp [Pl.stabW]; omega)])
        clear hys
        gi_wp2
        exact ⟨KeepsFrom.refl _ _, Frm.refl _ _ _, ⟨_, hv, by rw [HSN.out, HQ.out]; simpa [ints] using hrow, trivial⟩, hF⟩
  case done =>
    rintro D ys W hD rfl ⟨⟨v, hv, hrow, _⟩, hF⟩ hK
    rw [HST.out] at hrow
    have hc := hv.cell
    have hcv := hv.lt
    obtain ⟨A1, c1, rfl⟩ := own_slice hrow
    have hlen := Pl.stabT_len x vs
    have hB : Below w.heap.size w W := hbel0.trans (hF.below (by omega) (by omega))
    have hnd := own_not_deferred hrow hK rfl
    have hnb := hv.not_row (by decide) hrow
    gi_wp2_with (gi_at_call 83; refine (callsIn_wide.2 (reverse_own W0.heap.size _ (Pl.stabT x vs) (by omega) W hrow)).mono ?_; rintro e w5 ⟨rfl, hown5, hg5⟩; have hc5 := (hv.kept hg5 hnb).cell)
    have hK5 : w5.heap[D]? = some (.deferred (some [])) := (hg5.block D ((Array.getElem?_eq_some_iff.1 hK).1) hnd).trans hK
    have hB5 := hB.grown hg5 hB.size (fun k e => by have := (hrow.lt k e).1; omega)
    refine ⟨by simp, .inl ⟨_, _, rfl, run_takeDeferred hK5, ?_⟩⟩
    refine ⟨.tuple #[.slice A1 (Pl.stabT x vs).length c1, .int .i64 0], by simp [results, Tryd.f51, go_sem], _, rfl, ?_, hB5.trans (belowK_b (w := w) (Nat.le_refl _) _ D _ _ (by omega) hK5 rfl rfl)⟩
    rw [List.length_reverse]
    exact own_mono (ownsRow_putObj hown5 _ hK5 rfl) (by omega)
  case stop =>
    rintro D c pre W _ _ h _
    exact h.elim
end Go.Proofs.YtghbipipehglfaaDoor
