/- Merge, of the program. -/
import Derived.Test.YtdihnbjmeppbcaaDoorX2
import Derived.Test.YtdihnbjmeppbcaaDoorWJ
namespace Go.Proofs.YtdihnbjmeppbcaaDoor
open Go.RowKit Go.Shelf

/-- the form that is none -/
abbrev fm0 : Pl.Fm := ⟨⟨#[]⟩, 0, ⟨#[]⟩, [], none, 0⟩
theorem fmIn0 (w : World) : FmIn w fm0 := ⟨Rows.nil _ _, Nat.le_refl _, Nat.zero_le _, fun y hy => (by cases hy), Nat.zero_le _, Nat.zero_le _⟩
theorem mgF_no {f : Pl.Fm} (h : Pl.mgE f ≠ 0) (A : Option Addr) (k : Nat) : Pl.mgF f A k = fm0 := if_neg h
theorem fm_all (r : Pl.Fm) : (fmA r).all (·.oneCell') = true := by simp [Value.oneCell']
theorem st_fm {ops : Array Oper} {rest : List Oper} {o : Oper} {a : Act} {w : World} {Q : Exit → Act → World → Prop} {old : Array Value} {k : Pl.Fm} {g : Nat} {t : TypeId} (b : Blk w g t old) (hs : old.size = (fmA k).size) (hgd : o.guard = none) (x y : Operand) (ho : o.op = .store 28 x y)
    (hx : a.eval x = .pointer (some ⟨g, 0, none⟩)) (hy : a.eval y = .agg (fmA k))
    (h : ∀ w', Blk w' g t (fmA k) → Only g w w' → wpList Tryd.prog ops Q rest (a.put o.dst undef) w') : wpList Tryd.prog ops Q (o :: rest) a w :=
  wpList_store_row hgd 28 x y ho g (fmA k) hx hy t old b infoFm hs (fm_all k) (h _ (blk_setRow b) (Only.setRow g w (fmA k)))
/-- what Merge gives -/
def MgI (f : Pl.Fm) (w : World) (e : Ending) (w' : World) : Prop := ∃ A c, e = .returned (.tuple #[.agg (fmA (Pl.mgF f A c)), .int .i64 (Pl.mgE f)]) ∧ FmIn w' (Pl.mgF f A c) ∧ Below w.heap.size w w'
theorem mg_no {f : Pl.Fm} {E : Int} (h : Pl.mgE f = E) (hE : E ≠ 0) (w w' : World) (hb : Below w.heap.size w w') : MgI f w (.returned (.tuple #[.agg (fmA fm0), .int .i64 E])) w' :=
  ⟨none, 0, by rw [mgF_no (by rw [h]; exact hE), h], by rw [mgF_no (by rw [h]; exact hE)]; exact fmIn0 w', hb⟩
theorem mg_in {f : Pl.Fm} (hf : Pl.Vf f) (h0 : Pl.mgE f = 0) {A : Option Addr} {c : Nat} {w : World} (hF : f.cus.size ≤ maxLen ∧ f.cur.size ≤ maxLen) (hR : Rows lnL 4 w A (Pl.mgd f)) (hc : (Pl.mgd f).length ≤ c) (hm : c ≤ maxLen) : FmIn w (Pl.mgF f A c) := by
  rw [show Pl.mgF f A c = ⟨f.cus, f.d, f.cur, Pl.mgd f, A, c⟩ from if_pos h0]
  refine ⟨hR, hc, hm, fun y hy => ?_, hF.1, hF.2⟩
  obtain ⟨⟨x, hx, e, _⟩, _⟩ := Pl.mg_from (Pl.cnts hf) (Nat.le_refl _) y hy
  rw [e]
  exact (vl_facts (hf.ls x hx)).1

set_option maxRecDepth 100000 in
set_option maxHeartbeats 8000000 in
theorem Merge_b (f : Pl.Fm) (w : World) (hF : FmIn w f) :
    Calls Tryd.prog 32 #[.agg (fmA f)] w fun e w' => MgI f w e w' := by
  have hB := ((Below.refl w.heap.size w).alloc (Nat.le_refl _) (.cells (fmA f) 28)).alloc (by simp) (.cells (fmA fm0) 28)
  have bF := (Blk.new w 28 (fmA f)).alloc (.cells (fmA fm0) 28)
  have bZ := Blk.new (w.alloc (.cells (fmA f) 28)) 28 (fmA fm0)
  simp only [World.size_alloc] at bZ
  obtain ⟨v, hv⟩ : ∃ v, Pl.vf f = v := ⟨_, rfl⟩
  have H1 := Lib.hid (fun w' hb => vform_b f v hv w' (hF.below (W' := w') hb))
  have HFI := Lib.hid hF
  have HBF := Lib.hid bF
  have HBZ := Lib.hid bZ
  have HB := Lib.hid hB
  have hlF := bF.lt
  have hlZ := bZ.lt
  have q1 := bF.range
  obtain ⟨E, hE⟩ : ∃ E, Pl.mgE f = E := ⟨_, rfl⟩
  have HE := Lib.hid hE
  have z0 : fmA fm0 = #[.string ⟨#[]⟩, .int .i64 0, .string ⟨#[]⟩, .slice none 0 0] := rfl
  clear hF bF bZ hB hE
  cases v
  · have e3 : E = 3 := by rw [← HE.out]; unfold Pl.mgE; rw [hv]; rfl
    subst e3
    clear hv
    go_enter Tryd.func32, Tryd.ntmps32
    go_wp2_with (refine ldm_fm (s := f) q1 rfl _ rfl rfl ?_)
    rw [← z0] at *
    refine (H1.out _ HB.out).mono ?_
    rintro e w2 ⟨rfl, hb2⟩
    have bZ2 := HBZ.out.below hb2 hlZ
    have hB2 := HB.out.trans (hb2.mono HB.out.size)
    go_wp2_with (refine st_fm (k := fm0) bZ2 rfl rfl _ _ rfl rfl rfl ?_; intro w9 hM9 hO9)
    have hB9 := hB2.trans (hO9.below (B := w.heap.size) (Nat.le_succ _))
    have HR := Lib.hid (mg_no HE.out (by decide) w w9 hB9)
    exact bodyPost_ret (v := .tuple #[.agg (fmA fm0), .int .i64 3]) (results_cell2 Tryd.results32 _ _ (w.heap.size + 1) 28 (fmA fm0) (0, 0) _ rfl hM9 _ rfl Tryd.underlying28 rfl infoFm) rfl HR.out
  have hf := Pl.vf_true.1 hv
  have HVF := Lib.hid hf
  obtain ⟨n, hn⟩ : ∃ n, f.ls.length = n := ⟨_, rfl⟩
  have hn4 : n ≤ 40 := by rw [← hn]; have := hf.n1; omega
  have H2 := Lib.hid (fun w' (hb : Below w.heap.size w w') => merged_b f.a f.ls f.k n hn hn4 hf.ls w' (HFI.out.rows.below hb))
  have HN := Lib.hid hn
  have HMD : Hid (Pl.mg f.ls n = Pl.mgd f) := Lib.hid (by unfold Pl.mgd; rw [hn])
  have HFL : Hid ((fmA f) = #[.string f.cus, .int .i64 f.d, .string f.cur, .slice f.a n f.k]) := Lib.hid (by rw [← hn])
  have eg : ∀ args w, (callFunc 59 args).run Tryd.prog w = .ok (.enter 59 args) w := enters_of Tryd.func59 (by kernel_rfl) rfl
  obtain ⟨x5, h5⟩ : ∃ x, (Pl.mgd f).all Pl.vl = x := ⟨_, rfl⟩
  have HE5 : Hid (E = if x5 = true then 0 else 4) := Lib.hid (by rw [← HE.out]; unfold Pl.mgE; rw [hv, if_pos rfl, h5])
  have hmr := Pl.mg_from (Pl.cnts hf) (k := f.ls.length) (Nat.le_refl _)
  have H5 := Lib.hid (fun (A : Option Addr) (c q : Nat) (hq : (Pl.mgd f).length = q) (hq6 : q ≤ maxLen) w' (hr : Rows lnL 4 w' A (Pl.mgd f)) => every_l 59 eg A (Pl.mgd f) c q hq hq6 Pl.vl x5 h5 w' hr (fun z hz W _ => vline_b z (by
    obtain ⟨⟨x, hx, e, _⟩, _⟩ := hmr z hz
    rw [e]
    exact (vl_facts (hf.ls x hx)).1) _ rfl W))
  clear hf hn hv h5 hmr eg
  go_enter Tryd.func32, Tryd.ntmps32
  go_wp2_with (refine ldm_fm (s := f) q1 rfl _ rfl rfl ?_)
  rw [← z0] at *
  refine (H1.out _ HB.out).mono ?_
  rintro e w2 ⟨rfl, hb2⟩
  have bZ2 := HBZ.out.below hb2 hlZ
  have bF2 := HBF.out.below hb2 hlF
  have hB2 := HB.out.trans (hb2.mono HB.out.size)
  have c3 : w2.cell? ⟨w.heap.size, 3, none⟩ = some (.slice f.a n f.k) := by have := bF2; rw [HFL.out] at this; exact this.cell 3
  have HF2 := Lib.hid bF2
  have HZ2 := Lib.hid bZ2
  have hlF2 := bF2.lt
  have hlZ2 := bZ2.lt
  clear hb2 H1 bZ2 bF2 q1 HBZ HBF hlF hlZ
  go_wp2_with fail
  refine (H2.out w2 hB2).mono ?_
  rintro e w3 ⟨v3, rfl, own3, hb3⟩
  rw [HMD.out] at own3
  have bF3 := HF2.out.below hb3 hlF2
  have bZ3 := HZ2.out.below hb3 hlZ2
  have hB3 := hB2.trans (hb3.mono hB2.size)
  obtain ⟨A3, k3, rfl, hr3, hk3, hm3⟩ := rows_of_owns encLn own3
  obtain ⟨q, hq⟩ : ∃ q, (Pl.mgd f).length = q := ⟨_, rfl⟩
  have hown4 := ownsRow_setCell_below own3 (a := ⟨w.heap.size, 3, none⟩) hlF2 (.slice A3 (Pl.mgd f).length k3)
  obtain ⟨A4, k4, e4, hr4, _, _⟩ := rows_of_owns encLn hown4
  cases e4
  have hown4' := hown4
  rw [hq] at hown4'
  have HO4 := Lib.hid hown4'
  have bF4 := bF3.set_ 3 (.slice A3 (Pl.mgd f).length k3)
  have bZ4 := bZ3.far (p := ⟨w.heap.size, 3, none⟩) (by show w.heap.size + 1 ≠ w.heap.size; omega) (.slice A3 (Pl.mgd f).length k3)
  have hB4 : Below w.heap.size w (w3.setCell ⟨w.heap.size, 3, none⟩ (.slice A3 (Pl.mgd f).length k3)) := hB3.trans ((Only.setCell w.heap.size w3 3 _).below (Nat.le_refl _))
  have p3 := bF3.cell 3
  have g3 := bF3.frozen 3
  rw [hq] at hr4 bF4 bZ4 hB4 hk3 ⊢
  have p4 := bF4.cell 3
  have hq6 : q ≤ maxLen := Nat.le_trans hk3 hm3
  have HR4 := Lib.hid hr4
  have HF4 := Lib.hid bF4
  have HZ4 := Lib.hid bZ4
  have HB4 := Lib.hid hB4
  have hlF4 := bF4.lt
  have hlZ4 := bZ4.lt
  clear hB3 hB2 hb3 own3 hr3 hown4 hown4' hr4 bF4 bZ4 hB4 bF3 bZ3 H2 c3
  go_wp2_with fail
  refine (H5.out A3 k3 q hq hq6 _ HR4.out).mono ?_
  rintro e w5 ⟨rfl, hb5⟩
  have bF5 := HF4.out.below hb5 hlF4
  have bZ5 := HZ4.out.below hb5 hlZ4
  have hB5 := HB4.out.trans (hb5.mono HB4.out.size)
  have HR5 := Lib.hid (own_keep HO4.out hb5)
  have HE6 := Lib.hid HE5.out
  clear hb5 HF4 HZ4 HB4 HR4 H5 HE5 p3 g3 p4
  cases x5
  · have e4 : E = 4 := by rw [HE6.out]; rfl
    subst e4
    go_wp2_with (refine st_fm (k := fm0) bZ5 rfl rfl _ _ rfl rfl rfl ?_; intro w9 hM9 hO9)
    have hB9 := hB5.trans (hO9.below (B := w.heap.size) (Nat.le_succ _))
    have HR := Lib.hid (mg_no HE.out (by decide) w w9 hB9)
    exact bodyPost_ret (v := .tuple #[.agg (fmA fm0), .int .i64 4]) (results_cell2 Tryd.results32 _ _ (w.heap.size + 1) 28 (fmA fm0) (0, 0) _ rfl hM9 _ rfl Tryd.underlying28 rfl infoFm) rfl HR.out
  have e0 : E = 0 := by rw [HE6.out]; rfl
  subst e0
  obtain ⟨G, hG⟩ : ∃ G : Pl.Fm, G = ⟨f.cus, f.d, f.cur, Pl.mgd f, A3, k3⟩ := ⟨_, rfl⟩
  have eG : (fmA f).setIfInBounds 3 (.slice A3 q k3) = fmA G := by rw [← hq, hG]; rfl
  rw [eG] at bF5
  have q5 := bF5.range
  have HG : Hid (Pl.mgF f A3 k3 = G) := Lib.hid (by rw [hG]; exact if_pos HE.out)
  have hm3' := Lib.hid hm3
  have hk3' := Lib.hid hk3
  have HQ := Lib.hid hq
  clear eG bF5 hG hq hm3 hk3 hq6
  go_wp2_with (first | refine ldm_fm (s := G) q5 rfl _ rfl rfl ?_ | (refine st_fm (k := G) bZ5 rfl rfl _ _ rfl rfl rfl ?_; intro w9 hM9 hO9))
  have hB9 := hB5.trans (hO9.below (B := w.heap.size) (Nat.le_succ _))
  have hR9 : Rows lnL 4 w9 A3 (Pl.mgd f) := by
    have hgb : w5.grownBy w9 (some (w.heap.size + 1)) := ⟨hO9.os, hO9.tape, hO9.output, by rw [hO9.size]; exact Nat.le_refl _, fun k hk hne => hO9.block k (fun e => hne (by rw [e]))⟩
    have h9 := HR5.out.kept hgb (.inr (fun h => by have := (HO4.out.lt _ h).1; omega))
    rw [← HQ.out] at h9
    obtain ⟨A4, k4, e4, hr4, _, _⟩ := rows_of_owns encLn h9
    cases e4
    exact hr4
  have HR : Hid (MgI f w (.returned (.tuple #[.agg (fmA G), .int .i64 0])) w9) := Lib.hid ⟨A3, k3, by rw [HG.out, HE.out], mg_in HVF.out HE.out ⟨HFI.out.cus, HFI.out.cur⟩ hR9 (by rw [HQ.out]; exact hk3'.out) hm3'.out, hB9⟩
  exact bodyPost_ret (v := .tuple #[.agg (fmA G), .int .i64 0]) (results_cell2 Tryd.results32 _ _ (w.heap.size + 1) 28 (fmA G) (0, 0) _ rfl hM9 _ rfl Tryd.underlying28 rfl infoFm) rfl HR.out
end Go.Proofs.YtdihnbjmeppbcaaDoor
