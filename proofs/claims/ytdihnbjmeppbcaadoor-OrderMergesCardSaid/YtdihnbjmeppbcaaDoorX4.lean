/- Merge, of the document. -/
import Derived.Test.YtdihnbjmeppbcaaDoorX3
namespace Go.Proofs.YtdihnbjmeppbcaaDoor
open Go.RowKit Go.Shelf

theorem own_rangeAt {α : Type} {enc : α → List Value} {k : Nat} (E : Enc enc k) {w : World} {B g n c : Nat} {t : TypeId} {X : List α} (h : w.ownsRow B t k (.slice (some ⟨g, 0, none⟩) n c) n (flt enc X)) (hX : X.length = n) {i : Nat} (hi : i < n) : w.rangeAt g (i * k) (enc (X[i]'(by omega))) := fun j v hj => by
  have hjk : j < k := by
    rcases Nat.lt_or_ge j k with e | e
    · exact e
    · rw [List.getElem?_eq_none (by rw [E.len]; exact e)] at hj; cases hj
  have h1 : (i + 1) * k ≤ n * k := Nat.mul_le_mul_right k hi
  rw [Nat.add_mul] at h1
  rw [h.cellAt (i * k + j) (by omega), flt_get E X i j (by omega) hjk]
  exact hj
theorem own_slice {w : World} {B k n : Nat} {t : TypeId} {v : Value} {xs : List Value} (h : w.ownsRow B t k v n xs) : ∃ A c, v = .slice A n c := by
  rcases h with ⟨_, ⟨h, h0⟩ | ⟨g, cap, cur, h, _⟩⟩
  · exact ⟨none, 0, by rw [h, h0]⟩
  · exact ⟨_, _, h⟩
theorem and3_same {a b c d : Bool} {y x : Pl.Ln} {P : Prop} (h1 : (y.md.toList == x.md.toList) = a) (h2 : (y.col == x.col) = b) (h3 : (y.siz == x.siz) = c) (hP : (y.md = x.md ∧ y.col = x.col ∧ y.siz = x.siz) ↔ P) (hd : (a && (b && c)) = d) : d = true ↔ P := by
  rw [← hP, ← hd, Bool.and_eq_true, Bool.and_eq_true, ← h1, ← h2, ← h3, bs_eq, decide_eq_true_iff, beq_iff_eq, beq_iff_eq]
set_option maxRecDepth 100000 in
set_option maxHeartbeats 16000000 in
theorem rMerge_b (f : Pl.Fm) (w : World) (hF : FmIn w f) :
    Calls Tryd.prog 33 #[.agg (fmA f)] w fun e w' => MgI f w e w' := by
  have hB := ((Below.refl w.heap.size w).alloc (Nat.le_refl _) (.cells (fmA f) 28)).alloc (by simp) (.cells (fmA fm0) 28)
  have bF := (Blk.new w 28 (fmA f)).alloc (.cells (fmA fm0) 28)
  have bZ := Blk.new (w.alloc (.cells (fmA f) 28)) 28 (fmA fm0)
  simp only [World.size_alloc] at bZ
  obtain ⟨v, hv⟩ : ∃ v, Pl.vf f = v := ⟨_, rfl⟩
  have H1 := Lib.hid (fun w' hb => rvform_b f v hv w' (hF.below (W' := w') hb))
  have HFI := Lib.hid hF
  have HBF := Lib.hid bF
  have HBZ := Lib.hid bZ
  have HB := Lib.hid hB
  have hlF := bF.lt
  have hlZ := bZ.lt
  have q1 := bF.range
  obtain ⟨E, hE⟩ : ∃ E, Pl.mgE f = E := ⟨_, rfl⟩
  have HE := Lib.hid hE
  have z0 : fmA fm0 = #[.string ⟨#[]⟩, .int .i64 0, .string ⟨#[]⟩, .slice none 0 0] := rfl
  clear hF bF bZ hB hE
  cases v
  · have e3 : E = 3 := by rw [← HE.out]; unfold Pl.mgE; rw [hv]; rfl
    subst e3
    clear hv
    go_enter Tryd.func33, Tryd.ntmps33
    go_wp2_with (refine ldm_fm (s := f) q1 rfl _ rfl rfl ?_)
    rw [← z0] at *
    refine (H1.out _ HB.out).mono ?_
    rintro e w2 ⟨rfl, hb2⟩
    have bZ2 := HBZ.out.below hb2 hlZ
    have hB2 := HB.out.trans (hb2.mono HB.out.size)
    go_wp2_with (refine st_fm (k := fm0) bZ2 rfl rfl _ _ rfl rfl rfl ?_; intro w9 hM9 hO9)
    have hB9 := hB2.trans (hO9.below (B := w.heap.size) (Nat.le_succ _))
    have HR := Lib.hid (mg_no HE.out (by decide) w w9 hB9)
    exact bodyPost_ret (v := .tuple #[.agg (fmA fm0), .int .i64 3]) (results_cell2 Tryd.results33 _ _ (w.heap.size + 1) 28 (fmA fm0) (0, 0) _ rfl hM9 _ rfl Tryd.underlying28 rfl infoFm) rfl HR.out
  have hf := Pl.vf_true.1 hv
  have HVF := Lib.hid hf
  obtain ⟨n, hn⟩ : ∃ n, f.ls.length = n := ⟨_, rfl⟩
  have hn4 : n ≤ 40 := by rw [← hn]; have := hf.n1; omega
  have HN := Lib.hid hn
  have HMD : Hid (Pl.mg f.ls n = Pl.mgd f) := Lib.hid (by unfold Pl.mgd; rw [hn])
  have HFL : Hid ((fmA f) = #[.string f.cus, .int .i64 f.d, .string f.cur, .slice f.a n f.k]) := Lib.hid (by rw [← hn])
  obtain ⟨x5, h5⟩ : ∃ x, (Pl.mgd f).all Pl.vl = x := ⟨_, rfl⟩
  have HE5 : Hid (E = if x5 = true then 0 else 4) := Lib.hid (by rw [← HE.out]; unfold Pl.mgE; rw [hv, if_pos rfl, h5])
  have HVG := Lib.hid (fun (A : Option Addr) (c : Nat) => (Pl.vf_mgd hv A c).trans h5)
  have HFR := Lib.hid (fun k (hk : k ≤ n) => Pl.mg_from (Pl.cnts hf) (k := k) (by omega))
  have HVL := Lib.hid hf.ls
  obtain ⟨i0, hi, hz0, hz1, hz2⟩ := info_parts infoLn5
  clear hf hn hv h5
  go_enter Tryd.func33, Tryd.ntmps33
  go_wp2_with (refine ldm_fm (s := f) q1 rfl _ rfl rfl ?_)
  rw [← z0] at *
  refine (H1.out _ HB.out).mono ?_
  rintro e w2 ⟨rfl, hb2⟩
  have bZ2 := HBZ.out.below hb2 hlZ
  have bF2 := HBF.out.below hb2 hlF
  have hB2 := HB.out.trans (hb2.mono HB.out.size)
  have c0 : w2.cell? ⟨w.heap.size, 0, none⟩ = some (.string f.cus) := bF2.cell 0
  have c1 : w2.cell? ⟨w.heap.size, 1, none⟩ = some (.int .i64 f.d) := bF2.cell 1
  have c2 : w2.cell? ⟨w.heap.size, 2, none⟩ = some (.string f.cur) := bF2.cell 2
  have HF2 := Lib.hid bF2
  have HZ2 := Lib.hid bZ2
  have HB2 := Lib.hid hB2
  have hlF2 := bF2.lt
  have hlZ2 := bZ2.lt
  have bG := Blk.new w2 28 #[.string f.cus, .int .i64 f.d, .string f.cur, .slice none 0 0]
  have hBG := (Below.refl w2.heap.size w2).alloc (Nat.le_refl _) (.cells #[.string f.cus, .int .i64 f.d, .string f.cur, .slice none 0 0] 28)
  clear hb2 H1 bZ2 bF2 q1 HBZ HBF hlF hlZ hB2
  go_wp2
  clear c0 c1 c2
  have hgs : (w2.alloc (.cells #[.string f.cus, .int .i64 f.d, .string f.cur, .slice none 0 0] 28)).heap.size = w2.heap.size + 1 := by simp
  generalize w2.alloc (.cells #[.string f.cus, .int .i64 f.d, .string f.cur, .slice none 0 0] 28) = W3 at *
  go_loopw [5] (fun i wr => ∃ k : Nat, ∃ v : Value, k ≤ n ∧ i = .int .i64 k ∧ Blk wr w2.heap.size 28 #[.string f.cus, .int .i64 f.d, .string f.cur, v] ∧ wr.ownsRow (w2.heap.size + 1) 55 4 v (Pl.mg f.ls k).length (flt lnL (Pl.mg f.ls k)) ∧ Below w2.heap.size w2 wr) (fun i _ => n - (intOf i).toNat)
  case atStart => exact ⟨0, _, Nat.zero_le _, rfl, bG, World.ownsRow_nil _ _ _ _, hBG⟩
  case round =>
    clear bG hBG hgs
    obtain ⟨k, v, hk, rfl, bG, hown, hW⟩ := hrel
    obtain ⟨wo, rfl⟩ : ∃ wo, wo = wr := ⟨_, rfl⟩
    have p3 : wo.cell? ⟨w.heap.size, 3, none⟩ = some (.slice f.a n f.k) := by
      have := HF2.out.below hW hlF2
      rw [HFL.out] at this
      exact this.cell 3
    by_cases hlt : k < n
    · have hltI : (k : Int) < (n : Int) := by omega
      have hkx : k < f.ls.length := by rw [HN.out]; exact hlt
      obtain ⟨bx, ox, hfa, hbx, hcx⟩ := HFI.out.rows.open (by omega)
      have hr := row_at hbx hcx (HB2.out.trans (hW.mono HB2.out.size)) hkx
      rw [hfa] at p3
      have hx := HVL.out _ (List.getElem_mem hkx)
      have HST : Hid (Pl.mg f.ls (k + 1) = Pl.put (Pl.mg f.ls k) f.ls[k]) := Lib.hid (by rw [Pl.mg, ln_at hkx])
      have HUn := Lib.hid (Pl.mg_un f.ls k)
      have hlen := Pl.mg_len f.ls k
      have hfr := HFR.out k (by omega)
      clear hcx hfa
      generalize f.ls[k] = x at *
      have hc1 : 1 ≤ x.cnt := hx.n0
      have hc2 : x.cnt ≤ 1000 := hx.n1
      generalize Pl.mg f.ls k = acc at *
      obtain ⟨q, hq⟩ : ∃ q, acc.length = q := ⟨_, rfl⟩
      rw [hq] at hown hlen
      have HQ := Lib.hid hq
      have hsl : ∃ Av cv, v = .slice Av q cv := by
        rcases hown with ⟨_, ⟨h, h0⟩ | ⟨g, cap, cur, h, _⟩⟩
        · exact ⟨none, 0, by rw [h, h0]⟩
        · exact ⟨_, _, h⟩
      obtain ⟨Av, cv, rfl⟩ := hsl
      have HLT := Lib.hid (fun s e => hown.lt s e)
      have bX := Blk.new wo 55 (lnA x)
      have hbe := (Below.refl wo.heap.size wo).alloc (Nat.le_refl _) (.cells (lnA x) 55)
      have hW2 := hW.trans (hbe.mono hW.size)
      have hown2 := own_keep hown hbe
      have bG2 := bG.below hbe bG.lt
      have hgo : w2.heap.size < wo.heap.size := bG.lt
      have HFRQ := Lib.hid hfr
      clear hfr hW hown bG hq hx hbe
      go_wp2_with (refine ldm_ln hr rfl _ rfl rfl ?_)
      clear hr p3
      generalize wo.alloc (.cells (lnA x) 55) = W4 at *
      obtain ⟨X, hX⟩ : ∃ X, wo.heap.size = X := ⟨_, rfl⟩
      rw [hX] at hgo bX HLT ⊢
      have HX := Lib.hid hX
      clear hX
      go_loopw [7, 8] (fun t i wr => ∃ j : Nat, j ≤ q ∧ i = .int .i64 j ∧ t = .bool (Pl.tk acc x j) ∧ wr.ownsRow (w2.heap.size + 1) 55 4 (.slice Av q cv) q (flt lnL (Pl.Lk acc x j)) ∧ Blk wr w2.heap.size 28 #[.string f.cus, .int .i64 f.d, .string f.cur, .slice Av q cv] ∧ Blk wr X 55 (lnA x) ∧ Below w2.heap.size w2 wr) (fun _ i _ => q - (intOf i).toNat)
      case atStart => exact ⟨0, Nat.zero_le _, rfl, by rw [(Pl.tk_zero acc x).1], by rw [(Pl.tk_zero acc x).2]; exact hown2, bG2, bX, hW2⟩
      case round =>
        clear hown2 bG2 bX hW2
        obtain ⟨j, hj, rfl, rfl, hown, bG, bX, hW⟩ := hrel
        obtain ⟨wi, rfl⟩ : ∃ wi, wi = wr := ⟨_, rfl⟩
        have g3 : wi.cell? ⟨w2.heap.size, 3, none⟩ = some (.slice Av q cv) := bG.cell 3
        by_cases hjq : j < q
        · have hjI : (j : Int) < (q : Int) := by omega
          have hg : ∃ g, Av = some ⟨g, 0, none⟩ := by
            rcases hown with ⟨_, ⟨_, h0⟩ | ⟨g, cap, cur, h, _⟩⟩
            · omega
            · cases h; exact ⟨g, rfl⟩
          obtain ⟨g, rfl⟩ := hg
          have hja : j < acc.length := by rw [HQ.out]; exact hjq
          have hyr0 := own_rangeAt encLn hown (by rw [Pl.Lk_len, HQ.out]) hjq
          rw [Pl.Lk_get HUn.out hja] at hyr0
          have hyr : wi.rangeAt g (j * 4) (lnL acc[j]) := hyr0
          have hsm := Pl.same_iff HUn.out (x := x) hja
          have hcb := (HFRQ.out _ (List.getElem_mem hja)).2
          have HY1 : Hid (Pl.fi acc x = some j → Pl.tk acc x j = false ∧ Pl.tk acc x (j + 1) = true ∧ Pl.Lk acc x j = acc ∧ Pl.Lk acc x (j + 1) = acc.set j ⟨acc[j].md, acc[j].col, acc[j].siz, acc[j].cnt + x.cnt⟩) := Lib.hid (fun h => by
            have := Pl.tk_yes HUn.out h
            unfold Pl.more at this
            rw [ln_at hja] at this
            exact this)
          have HJA : Hid (acc[j] = acc[j]) := Lib.hid rfl
          obtain ⟨y, hy⟩ : ∃ y, acc[j] = y := ⟨_, rfl⟩
          rw [hy] at hyr hsm hcb HY1
          have HYE : Hid (∃ h : j < acc.length, acc[j] = y) := Lib.hid ⟨hja, hy⟩
          obtain ⟨b1, hb1⟩ : ∃ b, (y.md.toList == x.md.toList) = b := ⟨_, rfl⟩
          obtain ⟨b2, hb2⟩ : ∃ b, (y.col == x.col) = b := ⟨_, rfl⟩
          obtain ⟨b3, hb3⟩ : ∃ b, (y.siz == x.siz) = b := ⟨_, rfl⟩
          have HS := Lib.hid (and3_same hb1 hb2 hb3 hsm (Eq.refl (b1 && (b2 && b3))))
          have hgl : w2.heap.size + 1 ≤ g ∧ g < X := HLT.out g rfl
          have cp := hown.cellAt (j * 4 + 3) (by omega)
          have fp := hown.frozenAt (j * 4 + 3)
          have c3 : wi.cell? ⟨g, j * 4 + 3, none⟩ = some (.int .i64 y.cnt) := hyr 3 _ rfl
          have kt : IntKind.i64.wrap (y.cnt + x.cnt) = y.cnt + x.cnt := IntWalk.i64_in _ (by omega)
          have hbe := (Below.refl wi.heap.size wi).alloc (Nat.le_refl _) (.cells (lnA y) 55)
          have bY := Blk.new wi 55 (lnA y)
          have bG2 := bG.below hbe bG.lt
          have bX2 := bX.below hbe bX.lt
          have hW2 := hW.trans (hbe.mono hW.size)
          have y0 := bY.cell 0
          have y1 := bY.cell 1
          have y2 := bY.cell 2
          have y3 := bY.cell 3
          have x0 := bX2.cell 0
          have x1 := bX2.cell 1
          have x2 := bX2.cell 2
          have x3 := bX2.cell 3
          have g4 : _ = some (Value.slice (some ⟨g, 0, none⟩) q cv) := bG2.cell 3
          clear hsm hcb hja hy HJA hyr0
          cases b1
          · have HS : Hid (false = true ↔ Pl.fi acc x = some j) := HS
            have HT := Lib.hid (Pl.tk_no (fun h => by have := HS.out.2 h; cases this))
            have HO := Lib.hid (own_keep hown hbe)
            clear hown cp fp
            go_wp2_with (refine ldm_ln hyr rfl _ rfl rfl ?_)
            go_roundw
            case rel => exact ⟨j + 1, by omega, by go_num, by rw [HT.out.1], by rw [HT.out.2]; exact HO.out, bG2, bX2, hW2⟩
            case measure => simp [intOf]; omega
          cases b2
          · have HS : Hid (false = true ↔ Pl.fi acc x = some j) := HS
            have HT := Lib.hid (Pl.tk_no (fun h => by have := HS.out.2 h; cases this))
            have HO := Lib.hid (own_keep hown hbe)
            clear hown cp fp
            go_wp2_with (refine ldm_ln hyr rfl _ rfl rfl ?_)
            go_roundw
            case rel => exact ⟨j + 1, by omega, by go_num, by rw [HT.out.1], by rw [HT.out.2]; exact HO.out, bG2, bX2, hW2⟩
            case measure => simp [intOf]; omega
          cases b3
          · have HS : Hid (false = true ↔ Pl.fi acc x = some j) := HS
            have HT := Lib.hid (Pl.tk_no (fun h => by have := HS.out.2 h; cases this))
            have HO := Lib.hid (own_keep hown hbe)
            clear hown cp fp
            go_wp2_with (refine ldm_ln hyr rfl _ rfl rfl ?_)
            go_roundw
            case rel => exact ⟨j + 1, by omega, by go_num, by rw [HT.out.1], by rw [HT.out.2]; exact HO.out, bG2, bX2, hW2⟩
            case measure => simp [intOf]; omega
          have hfi := HS.out.1 rfl
          obtain ⟨t1, t2, t3, t4⟩ := HY1.out hfi
          rw [t3] at hown
          obtain ⟨hja, hy⟩ := HYE.out
          have hownA := own_keep hown hbe
          have hst := (hownA.stored (j * 4 + 3) (.int .i64 (y.cnt + x.cnt))).2
          have HO := Lib.hid (own_cntset (z := y.cnt + x.cnt) hownA hja hy)
          have HT2 := Lib.hid t2
          have HT4 := Lib.hid t4
          have HWp := Lib.hid (hW2.grown hst hW2.size (fun s e => by injection e with e; omega))
          have HGs := Lib.hid (bG2.far (p := ⟨g, j * 4 + 3, none⟩) (by show w2.heap.size ≠ g; omega) (.int .i64 (y.cnt + x.cnt)))
          have HXs := Lib.hid (bX2.far (p := ⟨g, j * 4 + 3, none⟩) (by show X ≠ g; omega) (.int .i64 (y.cnt + x.cnt)))
          have fa := fp
          have ca : (wi.alloc (.cells (lnA y) 55)).cell? ⟨g, j * 4 + 3, none⟩ = some (.int .i64 y.cnt) := (hbe.cell (p := ⟨g, j * 4 + 3, none⟩) (Nat.lt_trans hgl.2 bX.lt)).trans c3
          have za : (wi.alloc (.cells (lnA y) 55)).frozen? ⟨g, j * 4 + 3, none⟩ = false := (own_keep hown hbe).frozenAt _
          clear t1 t2 t3 t4 hfi hown hownA hst hja hy HS HY1 cp fp fa c3 hbe
          go_wp2_with (refine ldm_ln hyr rfl _ rfl rfl ?_)
          go_roundw
          case rel => exact ⟨j + 1, by omega, by go_num, by rw [HT2.out], by rw [HT4.out]; exact HO.out, HGs.out, HXs.out, HWp.out⟩
          case measure => simp [intOf]; omega
        · obtain rfl : j = q := by omega
          have hte := Pl.tk_end (acc := acc) (x := x)
          rw [HQ.out] at hte
          have hll := Pl.Lk_len acc x j
          rw [HQ.out] at hll
          have HLL := Lib.hid hll
          obtain ⟨t, ht⟩ : ∃ t, Pl.tk acc x j = t := ⟨_, rfl⟩
          rw [ht] at hte ⊢
          have HTE := Lib.hid hte
          clear ht hte hll
          cases t
          · obtain ⟨h1, h2⟩ := HTE.out.2 rfl
            rw [h1] at hown
            have HP := Lib.hid h2
            have rX := bX.range
            have HOW := Lib.hid (hown.alloc (.cells (lnL x).toArray 55))
            have HWA := Lib.hid (hW.alloc hW.size (.cells (lnL x).toArray 55))
            have HGA := Lib.hid (bG.alloc (.cells (lnL x).toArray 55))
            have HL9 := Lib.hid (fun s e => (hown.lt s e).1)
            have hs9 : w2.heap.size + 1 ≤ wi.heap.size := bG.lt
            clear h1 h2 hown bG hW bX
            go_wp2_with (first | refine ldm_ln rX rfl _ rfl rfl ?_ | (at_builtin; refine wpList_append_own _ rfl _ _ 26 rfl (w2.heap.size + 1) 55 i0 _ 4 40 Tryd.underlying26 hi hz0 hz1 hz2 rfl (by decide) _ _ _ rfl HOW.out ⟨wi.heap.size, 0, none⟩ 1 1 (lnL x) rfl rfl (new_cells' _ _ _ rfl) (encLn.one _) (by unfold maxLen; omega) (by omega) (by simp; omega) ?_; intro v' w9 hown' hgrow _; obtain ⟨A9, c9, rfl⟩ := own_slice hown'; have HB9 := Lib.hid (HWA.out.grown hgrow HWA.out.size (fun s e => Nat.le_of_lt (HL9.out s e))); have bG9 := HGA.out.below ((Below.refl (w2.heap.size + 1) _).grown hgrow (by simp; omega) (fun s e => HL9.out s e)) (Nat.lt_succ_self _); have g9 := bG9.cell 3; have z9 := bG9.frozen 3))
            have HO9 := Lib.hid (ownsRow_setCell_below hown' (a := ⟨w2.heap.size, 3, none⟩) (Nat.lt_succ_self _) (.slice A9 (j + 1) c9))
            have HG9 := Lib.hid (bG9.set_ 3 (.slice A9 (j + 1) c9))
            have HW9 := Lib.hid (HB9.out.trans ((Only.setCell w2.heap.size w9 3 (.slice A9 (j + 1) c9)).below (Nat.le_refl _)))
            clear hown' hgrow bG9 g9 z9
            go_roundw
            case rel =>
              have hml : (acc ++ [x]).length = j + 1 := by rw [List.length_append, HQ.out]; rfl
              exact ⟨k + 1, .slice A9 (j + 1) c9, by omega, by go_num, HG9.out, by rw [HST.out, HP.out, hml, flt_append, flt_one]; exact HO9.out, HW9.out⟩
            case measure => simp [intOf]; omega
          · have h1 := HTE.out.1 rfl
            have HP : Hid (Pl.mg f.ls (k + 1) = Pl.Lk acc x j) := Lib.hid (by rw [HST.out, h1])
            clear h1
            go_wp2
            go_roundw
            case rel => exact ⟨k + 1, .slice Av j cv, by omega, by go_num, bG, by rw [HP.out, HLL.out]; exact hown, hW⟩
            case measure => simp [intOf]; omega
    · obtain rfl : k = n := by omega
      rw [HMD.out] at hown
      obtain ⟨A3, k3, rfl, hr3, hk3, hm3⟩ := rows_of_owns encLn hown
      obtain ⟨q, hq⟩ : ∃ q, (Pl.mgd f).length = q := ⟨_, rfl⟩
      have HQ := Lib.hid hq
      obtain ⟨G, hG⟩ : ∃ G : Pl.Fm, G = ⟨f.cus, f.d, f.cur, Pl.mgd f, A3, k3⟩ := ⟨_, rfl⟩
      have hGI : FmIn wo G := by
        rw [hG]
        refine ⟨hr3, hk3, hm3, fun y hy => ?_, HFI.out.cus, HFI.out.cur⟩
        obtain ⟨⟨x, hx, e, _⟩, _⟩ := HFR.out k (Nat.le_refl _) y (by rw [HMD.out]; exact hy)
        rw [e]
        exact (vl_facts (HVL.out x hx)).1
      have eG : #[.string f.cus, .int .i64 f.d, .string f.cur, .slice A3 (Pl.mgd f).length k3] = fmA G := by rw [hG]
      rw [eG] at bG
      have q5 := bG.range
      have HG : Hid (x5 = true → Pl.mgF f A3 k3 = G) := Lib.hid (fun h => by
        have h0 : Pl.mgE f = 0 := by rw [HE.out, HE5.out, if_pos h]
        rw [hG]; exact if_pos h0)
      have HC := Lib.hid (rvform_b G x5 (by rw [hG]; exact HVG.out A3 k3) wo hGI)
      have HGI := Lib.hid hGI
      have HGB := Lib.hid bG
      have hlG := bG.lt
      have HW := Lib.hid hW
      have HO := Lib.hid hown
      have hZo := HZ2.out.below hW hlZ2
      have HZo := Lib.hid hZo
      have hlZo := hZo.lt
      have HBo := Lib.hid (HB2.out.trans (hW.mono HB2.out.size))
      clear hZo hGI eG hG hr3 hk3 hm3 hW hown bG hq
      go_wp2_with (refine ldm_fm (s := G) q5 rfl _ rfl rfl ?_)
      refine HC.out.mono ?_
      rintro e w5 ⟨rfl, hb5⟩
      have bG5 := HGB.out.below hb5 hlG
      have bZ5 := HZo.out.below hb5 hlZo
      have hB5 := HBo.out.trans (hb5.mono HBo.out.size)
      have HE6 := Lib.hid HE5.out
      have HO5 := Lib.hid (own_keep HO.out hb5)
      have HI5 := Lib.hid (HGI.out.below hb5)
      clear q5 HC hb5 HE5
      cases x5
      · have e4 : E = 4 := by rw [HE6.out]; rfl
        subst e4
        go_wp2_with (refine st_fm (k := fm0) bZ5 rfl rfl _ _ rfl rfl rfl ?_; intro w9 hM9 hO9)
        have hB9 := hB5.trans (hO9.below (B := w.heap.size) (Nat.le_succ _))
        have HR := Lib.hid (mg_no HE.out (by decide) w w9 hB9)
        exact bodyPost_ret (v := .tuple #[.agg (fmA fm0), .int .i64 4]) (results_cell2 Tryd.results33 _ _ (w.heap.size + 1) 28 (fmA fm0) (0, 0) _ rfl hM9 _ rfl Tryd.underlying28 rfl infoFm) rfl HR.out
      have e0 : E = 0 := by rw [HE6.out]; rfl
      subst e0
      have q6 := bG5.range
      have HG6 := Lib.hid (HG.out rfl)
      have HGB5 := Lib.hid bG5
      clear bG5
      go_wp2_with (first | refine ldm_fm (s := G) q6 rfl _ rfl rfl ?_ | (refine st_fm (k := G) bZ5 rfl rfl _ _ rfl rfl rfl ?_; intro w9 hM9 hO9))
      have hB9 := hB5.trans (hO9.below (B := w.heap.size) (Nat.le_succ _))
      have hR9 : FmIn w9 G := by
        have hgb : w5.grownBy w9 (some (w.heap.size + 1)) := ⟨hO9.os, hO9.tape, hO9.output, by rw [hO9.size]; exact Nat.le_refl _, fun k hk hne => hO9.block k (fun e => hne (by rw [e]))⟩
        have h9 := HO5.out.kept hgb (.inr (fun h => by have := (HO.out.lt _ h).1; omega))
        obtain ⟨A4, k4, e4, hr4, _, _⟩ := rows_of_owns encLn h9
        cases e4
        have hg0 : G = ⟨f.cus, f.d, f.cur, Pl.mgd f, A3, k3⟩ := by rw [← HG6.out]; exact if_pos HE.out
        have h5 := HI5.out
        rw [hg0] at h5 ⊢
        exact ⟨hr4, h5.cap, h5.top, h5.each, h5.cus, h5.cur⟩
      have HR : Hid (MgI f w (.returned (.tuple #[.agg (fmA G), .int .i64 0])) w9) := Lib.hid ⟨A3, k3, by rw [HG6.out, HE.out], by rw [HG6.out]; exact hR9, hB9⟩
      exact bodyPost_ret (v := .tuple #[.agg (fmA G), .int .i64 0]) (results_cell2 Tryd.results33 _ _ (w.heap.size + 1) 28 (fmA G) (0, 0) _ rfl hM9 _ rfl Tryd.underlying28 rfl infoFm) rfl HR.out
end Go.Proofs.YtdihnbjmeppbcaaDoor
