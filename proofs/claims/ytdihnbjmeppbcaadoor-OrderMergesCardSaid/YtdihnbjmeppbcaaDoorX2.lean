/- merged, of the program. -/
import Derived.Test.YtdihnbjmeppbcaaDoorX1
import Derived.Test.YtdihnbjmeppbcaaDoorWN
namespace Go.Proofs.YtdihnbjmeppbcaaDoor
open Go.RowKit Go.Shelf

theorem infoLn5 : (Tryd.prog.info? 55).map (fun i => (i.zero, i.size, i.bytes)) = some (some (.agg #[.string ⟨#[]⟩, .int .i64 0, .int .i64 0, .int .i64 0]), 4, 40) := by kernel_rfl
/-- a count that is set in a list -/
theorem flt_cnt {acc : List Pl.Ln} {p : Nat} (hp : p < acc.length) {y : Pl.Ln} {c : Int} (hy : acc[p] = y) : (flt lnL acc).set (p * 4 + 3) (.int .i64 c) = flt lnL (acc.set p ⟨y.md, y.col, y.siz, c⟩) := by
  subst hy
  apply List.ext_getElem?
  intro t
  by_cases ht : t < acc.length * 4
  · have h1 : t / 4 < acc.length := by omega
    have h2 : t % 4 < 4 := Nat.mod_lt _ (by decide)
    have h3 : t / 4 * 4 + t % 4 = t := by omega
    have e1 := flt_get encLn (acc.set p ⟨acc[p].md, acc[p].col, acc[p].siz, c⟩) (t / 4) (t % 4) (by rw [List.length_set]; exact h1) h2
    have e2 := flt_get encLn acc (t / 4) (t % 4) h1 h2
    rw [h3] at e1 e2
    rw [e1, List.getElem?_set]
    by_cases h4 : p = t / 4
    · subst h4
      rw [List.getElem_set_self]
      by_cases h5 : t % 4 = 3
      · rw [if_pos (by omega), if_pos (by rw [flt_len encLn]; have := ht; omega), h5]
        rfl
      · rw [if_neg (by omega), e2]
        have h6 : t % 4 = 0 ∨ t % 4 = 1 ∨ t % 4 = 2 := by omega
        rcases h6 with h6 | h6 | h6 <;> rw [h6] <;> rfl
    · rw [if_neg (by omega), e2, List.getElem_set_ne h4]
  · rw [List.getElem?_eq_none (by rw [List.length_set, flt_len encLn]; omega), List.getElem?_eq_none (by rw [flt_len encLn, List.length_set]; omega)]
theorem own_cntset {W : World} {B g n c p : Nat} {acc : List Pl.Ln} (h : W.ownsRow B 55 4 (.slice (some ⟨g, 0, none⟩) n c) n (flt lnL acc)) (hp : p < acc.length) {y : Pl.Ln} {z : Int} (hy : acc[p] = y) :
    (W.setCell ⟨g, p * 4 + 3, none⟩ (.int .i64 z)).ownsRow B 55 4 (.slice (some ⟨g, 0, none⟩) n c) n (flt lnL (acc.set p ⟨y.md, y.col, y.siz, z⟩)) := by
  rw [← flt_cnt hp hy]
  exact (h.stored _ _).1
theorem wf_small {x : Int} (h0 : 1 ≤ x) (h1 : x ≤ 1000000000) : (Lit.int .i64 x).wf = true := WalkArith.wf_i64 (by omega)
theorem vl_facts {x : Pl.Ln} (h : Pl.Vl x) : x.md.size ≤ maxLen ∧ (Lit.int .i64 x.col).wf = true ∧ (Lit.int .i64 x.siz).wf = true := by
  refine ⟨?_, wf_small h.c0 (by have := h.c1; omega), wf_small h.s0 h.s1⟩
  have := h.md
  rw [wdB_eq, Bool.and_eq_true, Pl.inB_true] at this
  unfold maxLen
  omega

set_option maxRecDepth 100000 in
set_option maxHeartbeats 8000000 in
theorem merged_b (A : Option Addr) (l : List Pl.Ln) (c m : Nat) (hm : l.length = m) (hm4 : m ≤ 40) (hV : ∀ x, x ∈ l → Pl.Vl x) (w : World) (hI : Rows lnL 4 w A l) :
    Calls Tryd.prog 75 #[.slice A m c] w fun e w' => ∃ v, e = .returned v ∧ w'.ownsRow w.heap.size 55 4 v (Pl.mg l m).length (flt lnL (Pl.mg l m)) ∧ Below w.heap.size w w' := by
  have hcn : ∀ x, x ∈ l → 1 ≤ x.cnt ∧ x.cnt ≤ 1000 := fun x hx => ⟨(hV x hx).n0, (hV x hx).n1⟩
  have HI := Lib.hid hI
  have HM := Lib.hid hm
  have HV := Lib.hid hV
  have HFR := Lib.hid (fun k (hk : k ≤ m) => Pl.mg_from hcn (k := k) (by omega))
  have hB0 := (Below.refl w.heap.size w).alloc (Nat.le_refl _) (.map #[] 0)
  have hM0 := MapL.made w
  obtain ⟨i0, hi, hz0, hz1, hz2⟩ := info_parts infoLn5
  clear hI hm hV hcn
  have hmm := @run_makeMap Tryd.prog
  go_enter Tryd.func75, Tryd.ntmps75
  go_wp2
  clear hmm
  have hs0 : w.heap.size + 1 ≤ (w.alloc (.map #[] 0)).heap.size := by simp
  generalize hWA : w.alloc (.map #[] 0) = W0 at *
  go_loopw [3, 13] (fun v i wr => ∃ k : Nat, k ≤ m ∧ i = .int .i64 k ∧ wr.ownsRow (w.heap.size + 1) 55 4 v (Pl.mg l k).length (flt lnL (Pl.mg l k)) ∧ MapL wr w.heap.size k (fun a b c => Pl.fi (Pl.mg l k) ⟨a, b, c, 0⟩) ∧ Below w.heap.size w wr) (fun _ i _ => m - (intOf i).toNat)
  case atStart => exact ⟨0, Nat.zero_le _, rfl, World.ownsRow_nil _ _ _ _, hM0, hB0⟩
  case round =>
    clear hM0 hB0 hWA hs0
    obtain ⟨k, hk, rfl, hown, hMap, hW⟩ := hrel
    obtain ⟨wo, rfl⟩ : ∃ wo, wo = wr := ⟨_, rfl⟩
    by_cases hlt : k < m
    · have hltI : (k : Int) < (m : Int) := by omega
      have hkx : k < l.length := by rw [HM.out]; exact hlt
      obtain ⟨bx, ox, rfl, hbx, hcx⟩ := HI.out.open (by omega)
      have hr := row_at hbx hcx hW hkx
      have hx := HV.out _ (List.getElem_mem hkx)
      have HST : Hid (Pl.mg l (k + 1) = Pl.put (Pl.mg l k) l[k]) := Lib.hid (by rw [Pl.mg, ln_at hkx])
      have hUn := Pl.mg_un l k
      have hlen := Pl.mg_len l k
      have hfr := HFR.out k (by omega)
      clear hcx
      generalize l[k] = x at *
      obtain ⟨md, col, siz, cnt⟩ := x
      obtain ⟨f1, f2, f3⟩ := vl_facts hx
      have hc1 : 1 ≤ cnt := hx.n0
      have hc2 : cnt ≤ 1000 := hx.n1
      generalize Pl.mg l k = acc at *
      obtain ⟨q, hq⟩ : ∃ q, acc.length = q := ⟨_, rfl⟩
      rw [hq] at hown hlen
      have HQ := Lib.hid hq
      -- the two blocks of the round
      have b6 := (Blk.new wo 55 (lnA ⟨md, col, siz, cnt⟩)).alloc (.cells (lnA ⟨md, col, siz, 0⟩) 55)
      have b7 := Blk.new (wo.alloc (.cells (lnA ⟨md, col, siz, cnt⟩) 55)) 55 (lnA ⟨md, col, siz, 0⟩)
      have hbe := ((Below.refl wo.heap.size wo).alloc (Nat.le_refl _) (.cells (lnA ⟨md, col, siz, cnt⟩) 55)).alloc (by simp) (.cells (lnA ⟨md, col, siz, 0⟩) 55)
      simp only [World.size_alloc] at b7
      have b6r := (Blk.new wo 55 (lnA ⟨md, col, siz, cnt⟩)).range
      have hMap2 := hMap.below hbe
      have hown2 := own_keep hown hbe
      have hW2 := hW.trans (hbe.mono hW.size)
      have hlk := hMap2.look f1 f2 f3
      have r6 := b6.range
      have r7 := b7.range
      have e63 := b6.cell 3
      have hwl : w.heap.size + 1 ≤ wo.heap.size := hMap.lt
      cases hfi : Pl.fi acc ⟨md, col, siz, cnt⟩ with
      | some p =>
        obtain ⟨hp, hsk⟩ := Pl.fi_some hfi
        have HP : Hid (Pl.put acc ⟨md, col, siz, cnt⟩ = acc.set p ⟨acc[p].md, acc[p].col, acc[p].siz, acc[p].cnt + cnt⟩) := Lib.hid (by
          rw [Pl.put_old hUn hfi]; unfold Pl.more; rw [ln_at hp])
        have HFI : Hid (∀ y, Pl.fi (Pl.put acc ⟨md, col, siz, cnt⟩) y = Pl.fi acc y) := Lib.hid (Pl.fi_old hfi)
        have hcb := (hfr _ (List.getElem_mem hp)).2
        have e1 : Pl.fi acc ⟨md, col, siz, 0⟩ = some p := hfi
        rw [e1] at hlk
        have hpq : p < q := by omega
        have hpI : (p : Int) < (q : Int) := by omega
        obtain ⟨y, hy⟩ : ∃ y, acc[p] = y := ⟨_, rfl⟩
        rw [hy] at hcb HP
        have hsl : ∃ g c, u3 = .slice (some ⟨g, 0, none⟩) q c := by
          rcases hown2 with ⟨_, ⟨h, h0⟩ | ⟨g, cap, cur, h, _⟩⟩
          · omega
          · exact ⟨_, _, h⟩
        obtain ⟨g, cg, rfl⟩ := hsl
        have hyL : (flt lnL acc)[p * 4 + 3]? = some (.int .i64 y.cnt) := by
          rw [flt_get encLn acc p 3 hp (by decide), hy]; rfl
        have cp := hown2.cellAt (p * 4 + 3) (by omega)
        rw [hyL] at cp
        have fp := hown2.frozenAt (p * 4 + 3)
        have hgb : w.heap.size + 1 ≤ g := (hown2.lt g rfl).1
        have hgs : g < wo.heap.size := (hown.lt g rfl).2
        have hlk2 : (Instr.lookup 117 (.map (some w.heap.size)) (.agg #[.string md, .int .i64 col, .int .i64 siz, .int .i64 0]) true).run Tryd.prog ((wo.alloc (.cells (lnA ⟨md, col, siz, cnt⟩) 55)).alloc (.cells (lnA ⟨md, col, siz, 0⟩) 55)) = .ok (.tuple #[.int .i64 (p : Nat), .bool true]) ((wo.alloc (.cells (lnA ⟨md, col, siz, cnt⟩) 55)).alloc (.cells (lnA ⟨md, col, siz, 0⟩) 55)) := hlk
        have kt : IntKind.i64.wrap (y.cnt + cnt) = y.cnt + cnt := IntWalk.i64_in _ (by omega)
        have hst := (hown.stored (p * 4 + 3) (.int .i64 (y.cnt + cnt))).2
        have hbs := (((Below.refl (wo.setCell ⟨g, p * 4 + 3, none⟩ (.int .i64 (y.cnt + cnt))).heap.size (wo.setCell ⟨g, p * 4 + 3, none⟩ (.int .i64 (y.cnt + cnt)))).alloc (Nat.le_refl _) (.cells (lnA ⟨md, col, siz, cnt⟩) 55)).alloc (by simp) (.cells (lnA ⟨md, col, siz, 0⟩) 55)).drew
        have HO := Lib.hid (own_keep (own_cntset (z := y.cnt + cnt) hown hp hy) hbs)
        have HMp := Lib.hid ((hMap.kept hst (by intro h; cases h; omega)).below hbs)
        have hW1 := hW.grown hst hW.size (fun s e => by cases e; omega)
        have HWp := Lib.hid (hW1.trans (hbs.mono hW1.size))
        clear hst hbs hW1 hMap2 hlk hown2 hown hMap hW hW2 hbe b6 b7 hyL hsk hfi hx hfr hUn hp hcb hq e1 f1 f2 f3 hlen hwl hy
        have c6 : _ = some (Value.int .i64 cnt) := e63
        clear e63
        go_wp2_with (first | refine ldm_ln hr rfl _ rfl rfl ?_ | refine ldm_ln b6r rfl _ rfl rfl ?_ | refine ldm_ln r7 rfl _ rfl rfl ?_)
        clear hr b6r r7 r6 hlk2
        go_region
        go_wp2
        go_roundw
        case rel => exact ⟨k + 1, by omega, by go_num, by rw [HST.out, HP.out, List.length_set, HQ.out]; exact HO.out, by
          have := HMp.out.mono (Nat.le_succ k)
          rw [HST.out]
          simp only [HFI.out]
          exact this, HWp.out⟩
        case measure => simp [intOf]; omega
      | none =>
        have HP : Hid (Pl.put acc ⟨md, col, siz, cnt⟩ = acc ++ [⟨md, col, siz, cnt⟩]) := Lib.hid (Pl.put_new hfi)
        have HFI : Hid (∀ y, Pl.fi (Pl.put acc ⟨md, col, siz, cnt⟩) y = if Pl.sk y ⟨md, col, siz, cnt⟩ = true then some acc.length else Pl.fi acc y) := Lib.hid (Pl.fi_new hfi)
        have e1 : Pl.fi acc ⟨md, col, siz, 0⟩ = none := hfi
        rw [e1] at hlk
        have hlk2 : (Instr.lookup 117 (.map (some w.heap.size)) (.agg #[.string md, .int .i64 col, .int .i64 siz, .int .i64 0]) true).run Tryd.prog ((wo.alloc (.cells (lnA ⟨md, col, siz, cnt⟩) 55)).alloc (.cells (lnA ⟨md, col, siz, 0⟩) 55)) = .ok (.tuple #[.int .i64 0, .bool false]) ((wo.alloc (.cells (lnA ⟨md, col, siz, cnt⟩) 55)).alloc (.cells (lnA ⟨md, col, siz, 0⟩) 55)) := hlk
        obtain ⟨w3, hrun, hM3, hg3⟩ := hMap2.store (by unfold maxLen; omega) q f1 f2 f3
        have hrun2 : (Instr.mapUpdate 117 (.map (some w.heap.size)) (.agg #[.string md, .int .i64 col, .int .i64 siz, .int .i64 0]) (.int .i64 (q : Nat))).run Tryd.prog ((wo.alloc (.cells (lnA ⟨md, col, siz, cnt⟩) 55)).alloc (.cells (lnA ⟨md, col, siz, 0⟩) 55)) = .ok () w3 := hrun
        have hsl : ∃ A c, u3 = .slice A q c := by
          rcases hown2 with ⟨_, ⟨h, h0⟩ | ⟨g, cap, cur, h, _⟩⟩
          · exact ⟨none, 0, by rw [h, h0]⟩
          · exact ⟨_, _, h⟩
        obtain ⟨Ao, co, rfl⟩ := hsl
        have hown3 := hown2.kept hg3 (.inr (by
          intro h
          have := (hown2.lt w.heap.size h).1
          omega))
        have hW3 := hW2.grown hg3 hW2.size (fun s e => by injection e with e; omega)
        have b6w : Blk w3 wo.heap.size 55 (lnA ⟨md, col, siz, cnt⟩) := (hg3.block _ b6.lt (by intro h; injection h with h; omega)).trans b6
        have r63 := b6w.range
        have hs3 : w.heap.size + 1 ≤ w3.heap.size := by have := b6w.lt; omega
        have HO3 := Lib.hid (hown3.alloc (.cells (lnL ⟨md, col, siz, cnt⟩).toArray 55))
        have HMp := Lib.hid hM3
        have HWp := Lib.hid (hW3.alloc hW3.size (.cells (lnL ⟨md, col, siz, cnt⟩).toArray 55))
        have HMa := Lib.hid (hM3.below ((Below.refl _ w3).alloc (Nat.le_refl _) (.cells (lnL ⟨md, col, siz, cnt⟩).toArray 55)))
        have hlt3 := fun s e => (hown3.lt s e).1
        have HLT := Lib.hid hlt3
        clear hlt3 hrun hlk hMap2 hown2 hown hMap hW hW2 hbe b6 b7 hfi hx hfr hUn hq e1 f1 f2 f3 hwl e63 hM3 hown3 hW3 b6w hg3 HMp r6
        go_wp2_with (first | refine ldm_ln hr rfl _ rfl rfl ?_ | refine ldm_ln b6r rfl _ rfl rfl ?_ | refine ldm_ln r7 rfl _ rfl rfl ?_ | refine ldm_ln r63 rfl _ rfl rfl ?_ | (at_builtin; refine wpList_append_own _ rfl _ _ 26 rfl (w.heap.size + 1) 55 i0 _ 4 40 Tryd.underlying26 hi hz0 hz1 hz2 rfl (by decide) _ _ _ rfl HO3.out ⟨w3.heap.size, 0, none⟩ 1 1 (lnL ⟨md, col, siz, cnt⟩) rfl rfl (new_cells' _ _ _ rfl) (encLn.one _) (by unfold maxLen; omega) (by omega) (by simp; omega) ?_; intro v' w9 hown' hgrow _))
        go_roundw
        case rel =>
          have hml : (acc ++ [(⟨md, col, siz, cnt⟩ : Pl.Ln)]).length = q + 1 := by rw [List.length_append, HQ.out]; rfl
          refine ⟨k + 1, by omega, by go_num, ?_, ?_, ?_⟩
          · rw [HST.out, HP.out, hml, flt_append, flt_one]; exact hown'
          · have := HMa.out.kept hgrow (by intro h; have := HLT.out _ h.symm; omega)
            rw [HST.out]
            simp only [HFI.out, HQ.out, Pl.sk_th]
            exact this
          · exact HWp.out.grown hgrow HWp.out.size (fun s e => Nat.le_of_lt (HLT.out s e))
        case measure => simp [intOf]; omega
    · obtain rfl : k = m := by omega
      have hl := hown.1
      have HO := Lib.hid (own_mono hown (Nat.le_succ _))
      go_wp2
      go_ret
      exact ⟨_, rfl, HO.out, hW⟩
end Go.Proofs.YtdihnbjmeppbcaaDoor
