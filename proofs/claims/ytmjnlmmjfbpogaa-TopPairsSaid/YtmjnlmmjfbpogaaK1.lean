/- checkPairs, of the program. -/
import Derived.Test.YtmjnlmmjfbpogaaV2
import Derived.Test.YtmjnlmmjfbpogaaF1
import Derived.Test.YtmjnlmmjfbpogaaP5
import Derived.Laws.MakeOwn
namespace Go.Proofs.Ytmjnlmmjfbpogaa
open Go.RowKit Go.Shelf

/-- a pair of numbers as it came in -/
abbrev ipc (p : Int × Int) : List Value := [.int .i64 p.1, .int .i64 p.2]
theorem info4 : (Try.prog.info? 4).map (fun i => (i.zero, i.size, i.bytes)) = some (some (.bool false), 1, 1) := by kernel_rfl
theorem info51p : (Try.prog.info? 51).map (·.size) = some 2 := by kernel_rfl
/-- block g is a row of n truth values -/
def StB (W : World) (g n : Nat) (f : Nat → Bool) : Prop := ∃ arr : Array Value, Blk W g 4 arr ∧ arr.size = n ∧ ∀ q, q < n → arr[q]? = some (.bool (f q))
section
variable {W W' : World} {g n : Nat} {f f' : Nat → Bool}
theorem StB.lt (h : StB W g n f) : g < W.heap.size := by obtain ⟨arr, h1, _⟩ := h; exact h1.lt
theorem StB.cell (h : StB W g n f) {q : Nat} (hq : q < n) : W.cell? ⟨g, q, none⟩ = some (.bool (f q)) := by
  obtain ⟨arr, h1, h2, h3⟩ := h
  rw [h1.cell q, h3 q hq]
theorem StB.frozen (h : StB W g n f) (q : Nat) : W.frozen? ⟨g, q, none⟩ = false := by obtain ⟨arr, h1, _⟩ := h; exact h1.frozen q
theorem StB.below {B : Nat} (h : StB W g n f) (hb : Below B W W') (hg : g < B) : StB W' g n f := by
  obtain ⟨arr, h1, h2, h3⟩ := h
  exact ⟨arr, h1.below hb hg, h2, h3⟩
theorem StB.alloc (h : StB W g n f) (o : Obj) : StB (W.alloc o) g n f := by
  obtain ⟨arr, h1, h2, h3⟩ := h
  exact ⟨arr, h1.alloc o, h2, h3⟩
theorem StB.set (h : StB W g n f) (k : Nat) (v : Bool) (hv : ∀ q, q < n → f' q = if q = k then v else f q) : StB (W.setCell ⟨g, k, none⟩ (.bool v)) g n f' := by
  obtain ⟨arr, h1, h2, h3⟩ := h
  refine ⟨_, h1.set_ k _, by simpa using h2, fun q hq => ?_⟩
  rw [Array.getElem?_setIfInBounds, hv q hq]
  by_cases e : k = q
  · subst e
    rw [if_pos rfl, if_pos (by omega), if_pos rfl]
  · rw [if_neg e, h3 q hq, if_neg (fun e' => e e'.symm)]
theorem StB.congr (h : StB W g n f) (hv : ∀ q, q < n → f' q = f q) : StB W g n f' := by
  obtain ⟨arr, h1, h2, h3⟩ := h
  exact ⟨arr, h1, h2, fun q hq => by rw [h3 q hq, hv q hq]⟩
theorem StB.new (w : World) (n : Nat) : StB (w.alloc (.cells (madeCells #[.bool false] n) 4)) w.heap.size n (fun _ => false) := by
  refine ⟨_, Blk.new w _ _, size_madeCells _ _, fun q hq => ?_⟩
  rw [Array.getElem?_eq_getElem (by rw [size_madeCells]; exact hq)]
  simp [madeCells, Nat.mod_one]
end
theorem ldm_pr {ops : Array Oper} {rest : List Oper} {o : Oper} {a : Act} {w : World} {Q : Exit → Act → World → Prop} {b off : Nat} {p : Int × Int} (hr : w.rangeAt b off (ipc p)) (hw : Region.wanted o (yielded ops a.tmps) = true) (x : Operand) (ho : o.op = .load 51 x)
    (hx : a.eval x = .pointer (some ⟨b, off, none⟩)) (h : wpList Try.prog ops Q rest (a.put o.dst (.agg (ipc p).toArray)) w) : wpList Try.prog ops Q (o :: rest) a w :=
  wpList_wanted hw fun _ hK => wp_load_mid 51 x ho b off hx (ipc p) _ hr Try.underlying51 rfl info51p (hK _ _ h)
/-- the cells of temple i, wherever all that lay lies as it lay -/
theorem tms_cells {w : World} {bz oz : Nat} {l : List Pl.Tm} (hbz : bz < w.heap.size) (hc : ∀ j, j < l.length → w.rangeAt bz (oz + j * 4) (tmA (l.getD j Pl.zt)).toList) {W : World} (hB : Below w.heap.size w W) {i : Nat} (hi : i < l.length) :
    W.cell? ⟨bz, oz + i * 4, none⟩ = some (.int .i64 (Pl.at' l i).num) ∧ W.cell? ⟨bz, oz + i * 4 + 1, none⟩ = some (.int .i64 (Pl.at' l i).side) ∧ W.cell? ⟨bz, oz + i * 4 + 2, none⟩ = some (.int .i64 (Pl.at' l i).len) ∧ W.cell? ⟨bz, oz + i * 4 + 3, none⟩ = some (.int .i64 (Pl.at' l i).col) := by
  have h := rangeAt_below (hc i hi) hbz hB
  rw [Pl.at_getD hi] at h
  exact ⟨h 0 _ rfl, h 1 _ rfl, h 2 _ rfl, h 3 _ rfl⟩
theorem tms_open {w : World} {A : Option Addr} {l : List Pl.Tm} (h : Tms w A l) (h0 : 0 < l.length) : ∃ bb off, A = some ⟨bb, off, none⟩ ∧ bb < w.heap.size ∧ ∀ j, j < l.length → w.rangeAt bb (off + j * 4) (tmA (l.getD j Pl.zt)).toList := by
  rcases h with h | h
  · rw [h] at h0; simp at h0
  · exact h
theorem vt_wrap {a b : Pl.Tm} (ha : Pl.Vt a) (hb : Pl.Vt b) : IntKind.i64.wrap (a.len - b.len) = a.len - b.len := IntWalk.i64_in _ (by have := ha.l1; have := ha.l2; have := hb.l1; have := hb.l2; omega)

set_option maxRecDepth 100000 in
set_option maxHeartbeats 16000000 in
theorem checkpairs_b (A : Option Addr) (l : List Pl.Tm) (c n : Nat) (hn : l.length = n) (hok : Pl.Ok l) (tol : Int) (ht : 0 ≤ tol ∧ tol ≤ 2000) (Ap : Option Addr) (ps : List (Int × Int)) (cp m : Nat) (hm : ps.length = m) (hm70 : m ≤ 70) (v : Int) (hv : Pl.jd l tol ps = v) (w : World) (hI : Tms w A l) (hP : Rows ipc 2 w Ap ps) :
    Calls Try.prog 54 #[.slice A n c, .int .i64 tol, .slice Ap m cp] w fun e w' => e = .returned (.int .i64 v) ∧ Below w.heap.size w w' := by
  have HI := Lib.hid hI
  have HP := Lib.hid hP
  have HN := Lib.hid hn
  have HM := Lib.hid hm
  have HOK := Lib.hid hok
  have HV := Lib.hid hv
  have hl : n ≤ 60 := hn ▸ hok.len
  have HKT : Hid (IntKind.i64.wrap (-tol) = -tol) := Lib.hid (IntWalk.i64_in _ (by omega))
  clear hI hP hn hm hok hv ht
  go_enter Try.func54, Try.ntmps54
  go_wp2
  go_loopw [8, 16] (fun _ i wr => ∃ k : Nat, k ≤ m ∧ i = .int .i64 k ∧ Hid ((ps.take k).all (Pl.pok n) = true) ∧ Below w.heap.size w wr) (fun _ i _ => m - (intOf i).toNat)
  case atStart => exact ⟨0, Nat.zero_le _, rfl, Lib.hid rfl, Below.refl _ _⟩
  case round =>
    obtain ⟨k, hk, rfl, hall, hB⟩ := hrel
    obtain ⟨wo, rfl⟩ : ∃ wo, wo = wr := ⟨_, rfl⟩
    by_cases hlt : k < m
    · have hkp : k < ps.length := by rw [HM.out]; exact hlt
      obtain ⟨bp, op, rfl, hbp, hcp⟩ := HP.out.open (by omega)
      have hck := rangeAt_below (hcp k hkp) hbp hB
      have HYES : Hid (Pl.pok n ps[k] = true → (ps.take (k + 1)).all (Pl.pok n) = true) := Lib.hid (fun h => Pl.all_snoc hkp hall.out h)
      have HNO : Hid (Pl.pok n ps[k] = false → v = 2) := Lib.hid (fun h => by rw [← HV.out]; unfold Pl.jd; rw [HN.out, if_neg (by rw [Pl.all_not hkp h]; simp)])
      clear hcp hall
      generalize ps[k] = p at *
      obtain ⟨p1, p2⟩ := p
      obtain ⟨x1, h1⟩ : ∃ x, decide (0 ≤ p1 ∧ p1 < (n : Int)) = x := ⟨_, rfl⟩
      obtain ⟨x2, h2⟩ : ∃ x, decide (0 ≤ p2 ∧ p2 < (n : Int)) = x := ⟨_, rfl⟩
      unfold Pl.pok at HYES HNO
      rw [h1, h2] at HYES HNO
      have H1 := Lib.hid h1
      have H2 := Lib.hid h2
      clear h1 h2
      have bE := Blk.new wo 51 (ipc (p1, p2)).toArray
      have q0 := bE.cell 0
      have q1 := bE.cell 1
      have hB1 := hB.alloc hB.size (.cells (ipc (p1, p2)).toArray 51)
      have hc : x1 = false ∨ (x1 = true ∧ x2 = false) ∨ (x1 = true ∧ x2 = true) := by cases x1 <;> cases x2 <;> simp
      rcases hc with rfl | ⟨rfl, rfl⟩ | ⟨rfl, rfl⟩
      · have HF : Hid (v = 2) := Lib.hid (HNO.out rfl)
        go_wp2_with (first | refine ldm_pr hck rfl _ rfl rfl ?_ | (go_at_call 61; refine (isindex_b p1 _ n c (by omega) _ H1.out _).mono ?_; rintro e w1 ⟨rfl, rfl⟩))
        go_ret
        exact ⟨by rw [HF.out]; rfl, hB1⟩
      · have HF : Hid (v = 2) := Lib.hid (HNO.out rfl)
        go_wp2_with (refine ldm_pr hck rfl _ rfl rfl ?_)
        refine (isindex_b p1 _ n c (by omega) _ H1.out _).mono ?_
        rintro e w1 ⟨rfl, rfl⟩
        go_wp2_with fail
        refine (isindex_b p2 _ n c (by omega) _ H2.out _).mono ?_
        rintro e w1 ⟨rfl, rfl⟩
        go_wp2
        go_ret
        exact ⟨by rw [HF.out]; rfl, hB1⟩
      · have HF := Lib.hid (HYES.out rfl)
        go_wp2_with (refine ldm_pr hck rfl _ rfl rfl ?_)
        refine (isindex_b p1 _ n c (by omega) _ H1.out _).mono ?_
        rintro e w1 ⟨rfl, rfl⟩
        go_wp2_with fail
        refine (isindex_b p2 _ n c (by omega) _ H2.out _).mono ?_
        rintro e w1 ⟨rfl, rfl⟩
        go_wp2
        go_roundw
        case rel => exact ⟨k + 1, by omega, by go_num, HF, hB1⟩
        case measure => simp [intOf]; omega
    · obtain rfl : k = m := by omega
      have hall2 : ps.all (Pl.pok n) = true := by have := hall.out; rw [List.take_of_length_le (by rw [HM.out]; exact Nat.le_refl _)] at this; exact this
      have HPO : Hid (∀ q (hq : q < ps.length), (0 ≤ ps[q].1 ∧ ps[q].1 < n) ∧ 0 ≤ ps[q].2 ∧ ps[q].2 < n) := Lib.hid (fun q hq => Pl.pok_true (List.all_eq_true.1 hall2 _ (List.getElem_mem hq)))
      have HJ : Hid (Pl.jgn l tol ((ps.map Pl.nat2).drop 0) (fun _ => false) = v) := Lib.hid (by rw [List.drop_zero, ← HV.out]; unfold Pl.jd; rw [HN.out, if_pos hall2])
      clear hall hall2 hlt hk
      obtain ⟨i0, hi0, hz0, hn0, hy0⟩ := info_parts info4
      have hmk := run_make wo 76 4 i0 (.bool false) Try.underlying76 hi0 hz0 .i64 .i64 n n (by omega) (by omega) (by rw [hy0]; omega) (by omega)
      rw [Int.toNat_natCast, hn0, Nat.mul_one] at hmk
      have hst := StB.new wo n
      have hB3 := hB.alloc hB.size (.cells (madeCells #[.bool false] n) 4)
      have hgb := hB.size
      change Sem.run _ _ _ = Result.ok _ (wo.alloc (.cells (madeCells #[.bool false] n) 4)) at hmk
      generalize wo.alloc (.cells (madeCells #[.bool false] n) 4) = w3 at *
      generalize wo.heap.size = g at *
      clear hi0 hz0 hn0 hy0 hB
      go_wp2
      clear hmk
      go_loopw [11, 12, 13, 38] (fun _ _ _ i wr => ∃ k' : Nat, ∃ u, k' ≤ k ∧ i = .int .i64 k' ∧ StB wr g n u ∧ Hid (Pl.jgn l tol ((ps.map Pl.nat2).drop k') u = v) ∧ Below w.heap.size w wr) (fun _ _ _ i _ => k - (intOf i).toNat)
      case atStart => exact ⟨0, _, Nat.zero_le _, rfl, hst, HJ, hB3⟩
      case round =>
        clear hst HJ hB3
        obtain ⟨k', u, hk', rfl, hst, hjg, hB⟩ := hrel
        obtain ⟨w4, rfl⟩ : ∃ w4, w4 = wr := ⟨_, rfl⟩
        by_cases hlt : k' < k
        · have hkp : k' < ps.length := by rw [HM.out]; exact hlt
          obtain ⟨bp, op, rfl, hbp, hcp⟩ := HP.out.open (by omega)
          have hck := rangeAt_below (hcp k' hkp) hbp hB
          obtain ⟨⟨hi1, hi2⟩, hj1, hj2⟩ := HPO.out k' hkp
          have hdr : (ps.map Pl.nat2).drop k' = Pl.nat2 ps[k'] :: (ps.map Pl.nat2).drop (k' + 1) := by
            rw [List.drop_eq_getElem_cons (by simpa using hkp), List.getElem_map]
          have HJ2 := Lib.hid hjg.out
          rw [hdr] at HJ2
          clear hcp hjg hdr
          generalize ps[k'] = p at *
          obtain ⟨p1, p2⟩ := p
          dsimp only at hi1 hi2 hj1 hj2
          obtain ⟨i, rfl⟩ : ∃ i : Nat, p1 = i := ⟨p1.toNat, by omega⟩
          obtain ⟨j, rfl⟩ : ∃ j : Nat, p2 = j := ⟨p2.toNat, by omega⟩
          rw [show Pl.nat2 ((i : Int), (j : Int)) = (i, j) from rfl] at HJ2
          have hil : i < l.length := by rw [HN.out]; omega
          have hjl : j < l.length := by rw [HN.out]; omega
          obtain ⟨bz, oz, rfl, hbz, hcz⟩ := tms_open HI.out (by omega)
          have HCI := Lib.hid (fun (W : World) (hB : Below w.heap.size w W) => tms_cells hbz hcz hB hil)
          have HCJ := Lib.hid (fun (W : World) (hB : Below w.heap.size w W) => tms_cells hbz hcz hB hjl)
          have vi := HOK.out.vt i hil
          have vj := HOK.out.vt j hjl
          have HVI := Lib.hid vi
          have HVJ := Lib.hid vj
          have HK1 := Lib.hid (vt_wrap vi vj)
          have HK2 := Lib.hid (vt_wrap vj vi)
          have hgl := hst.lt
          have hin : i < n := by omega
          have hjn : j < n := by omega
          clear hil hjl hcz vi vj
          have bE := Blk.new w4 51 (ipc ((i : Int), (j : Int))).toArray
          have z0 := fun e : Ext (w4.alloc (.cells (ipc ((i : Int), (j : Int))).toArray 51)) => e.cell ((bE.cell 0).trans rfl)
          have z1 := fun e : Ext (w4.alloc (.cells (ipc ((i : Int), (j : Int))).toArray 51)) => e.cell ((bE.cell 1).trans rfl)
          have hB1 := hB.alloc hB.size (.cells (ipc ((i : Int), (j : Int))).toArray 51)
          have hst1 := hst.alloc (.cells (ipc ((i : Int), (j : Int))).toArray 51)
          have hgl1 := hst1.lt
          clear hst bE
          go_wp2_with (refine ldm_pr hck rfl _ rfl rfl ?_)
          refine wp_region_ext (by kernel_rfl) (by kernel_rfl) ?_
          repeat (go_big_quiet_step (fail))
          refine wpQuiet_nil ?_
          rintro _ ⟨s, rfl⟩
          have hB2 := hB1.trans (s.h.mono hB1.size)
          have hst2 := hst1.below s.h hgl1
          clear hst1 hgl1 z0 z1 hB1
          generalize s.w = w5 at *
          clear s
          have ci := hst2.cell hin
          have cj := hst2.cell hjn
          have fi := hst2.frozen i
          have fj := hst2.frozen j
          obtain ⟨ui, hui⟩ : ∃ b, u i = b := ⟨_, rfl⟩
          obtain ⟨uj, huj⟩ : ∃ b, u j = b := ⟨_, rfl⟩
          rw [hui] at ci
          rw [huj] at cj
          have HUI := Lib.hid hui
          have HUJ := Lib.hid huj
          clear hui huj
          by_cases hij : i = j
          · have HF : Hid (v = 43) := Lib.hid (by rw [← HJ2.out, Pl.jgn_43 (.inl hij)])
            have hij2 : ((i : Int) == (j : Int)) = true := by simp [hij]
            clear hij
            go_wp2
            go_ret
            exact ⟨by rw [HF.out]; rfl, hB2⟩
          have hij2 : ((i : Int) == (j : Int)) = false := by simp; omega
          cases ui with
          | true =>
            have HF : Hid (v = 43) := Lib.hid (by rw [← HJ2.out, Pl.jgn_43 (.inr (.inl HUI.out))])
            go_wp2
            go_ret
            exact ⟨by rw [HF.out]; rfl, hB2⟩
          | false =>
          cases uj with
          | true =>
            have HF : Hid (v = 43) := Lib.hid (by rw [← HJ2.out, Pl.jgn_43 (.inr (.inr HUJ.out))])
            go_wp2
            go_ret
            exact ⟨by rw [HF.out]; rfl, hB2⟩
          | false =>
          have H43 := Lib.hid hij
          have hst3 := (hst2.set (f' := fun q => decide (q = i) || u q) i true (fun q _ => by by_cases e : q = i <;> simp [e])).set (f' := fun q => decide (q = j) || (decide (q = i) || u q)) j true (fun q _ => by by_cases e : q = j <;> simp [e])
          have hO : Below w.heap.size w ((w5.setCell ⟨g, i, none⟩ (.bool true)).setCell ⟨g, j, none⟩ (.bool true)) := hB2.trans (((Only.setCell g w5 i _).trans (Only.setCell g _ j _)).below hgb)
          have hiI : (i : Int) < (n : Int) := by omega
          have hjI : (j : Int) < (n : Int) := by omega
          have cij : (w5.setCell ⟨g, i, none⟩ (.bool true)).frozen? ⟨g, j, none⟩ = false := (hst2.set (f' := fun q => decide (q = i) || u q) i true (fun q _ => by by_cases e : q = i <;> simp [e])).frozen j
          have cij2 : (w5.setCell ⟨g, i, none⟩ (.bool true)).cell? ⟨g, j, none⟩ = some (.bool (decide (j = i) || u j)) := (hst2.set (f' := fun q => decide (q = i) || u q) i true (fun q _ => by by_cases e : q = i <;> simp [e])).cell hjn
          rw [decide_eq_false (fun e : j = i => hij e.symm), HUJ.out] at cij2
          have hgz := hst3.lt
          clear hst2 hB2 hij
          go_wp2
          generalize (w5.setCell ⟨g, i, none⟩ (.bool true)).setCell ⟨g, j, none⟩ (.bool true) = w6 at *
          have yi0 := fun e : Ext w6 => (HCI.out _ (hO.trans (e.h.mono hO.size))).1
          have yi1 := fun e : Ext w6 => (HCI.out _ (hO.trans (e.h.mono hO.size))).2.1
          have yi2 := fun e : Ext w6 => (HCI.out _ (hO.trans (e.h.mono hO.size))).2.2.1
          have yi3 := fun e : Ext w6 => (HCI.out _ (hO.trans (e.h.mono hO.size))).2.2.2
          have yj0 := fun e : Ext w6 => (HCJ.out _ (hO.trans (e.h.mono hO.size))).1
          have yj1 := fun e : Ext w6 => (HCJ.out _ (hO.trans (e.h.mono hO.size))).2.1
          have yj2 := fun e : Ext w6 => (HCJ.out _ (hO.trans (e.h.mono hO.size))).2.2.1
          have yj3 := fun e : Ext w6 => (HCJ.out _ (hO.trans (e.h.mono hO.size))).2.2.2
          clear ci cj fi fj cij cij2
          by_cases hs : (Pl.at' l i).side = 1
          rotate_left
          · have HF : Hid (v = 42) := Lib.hid (by rw [← HJ2.out, Pl.jgn_42 H43.out HUI.out HUJ.out (.inl hs)])
            have hs2 : ((Pl.at' l i).side != 1) = true := by simp [hs]
            clear hs
            refine wp_region_ext (by kernel_rfl) (by kernel_rfl) ?_
            repeat (go_big_quiet_step (fail))
            refine wpQuiet_nil ?_
            rintro _ ⟨s, rfl⟩
            have hB6 := hO.trans (s.h.mono hO.size)
            have hst6 := hst3.below s.h hgz
            clear yi0 yi1 yi2 yi3 yj0 yj1 yj2 yj3
            go_wp2
            go_ret
            exact ⟨by rw [HF.out]; rfl, hB6⟩
          have hs2 : ((Pl.at' l i).side != 1) = false := by simp [hs]
          have HS1 := Lib.hid hs
          clear hs
          have hd := canpair_b (Pl.at' l i) (Pl.at' l j) tol _ rfl HK1.out HKT.out
          obtain ⟨x, hx⟩ : ∃ x, Pl.can (Pl.at' l i) (Pl.at' l j) tol = x := ⟨_, rfl⟩
          rw [hx] at hd
          have HD := Lib.hid hd
          have HX := Lib.hid hx
          clear hd hx
          cases x with
          | false =>
            have HF : Hid (v = 42) := Lib.hid (by rw [← HJ2.out, Pl.jgn_42 H43.out HUI.out HUJ.out (.inr HX.out)])
            refine wp_region_ext (by kernel_rfl) (by kernel_rfl) ?_
            repeat (go_big_quiet_step ((go_at_call 49; refine calls_ext (HD.out _))))
            refine wpQuiet_nil ?_
            rintro _ ⟨s, rfl⟩
            have hB6 := hO.trans (s.h.mono hO.size)
            have hst6 := hst3.below s.h hgz
            clear yi0 yi1 yi2 yi3 yj0 yj1 yj2 yj3
            go_wp2
            go_ret
            exact ⟨by rw [HF.out]; rfl, hB6⟩
          | true =>
            have HF := Lib.hid ((Pl.jgn_on H43.out HUI.out HUJ.out HS1.out HX.out).symm.trans HJ2.out)
            refine wp_region_ext (by kernel_rfl) (by kernel_rfl) ?_
            repeat (go_big_quiet_step ((go_at_call 49; refine calls_ext (HD.out _))))
            refine wpQuiet_nil ?_
            rintro _ ⟨s, rfl⟩
            have hB6 := hO.trans (s.h.mono hO.size)
            have hst6 := hst3.below s.h hgz
            clear yi0 yi1 yi2 yi3 yj0 yj1 yj2 yj3
            go_wp2
            go_roundw
            case rel => exact ⟨k' + 1, _, by omega, by go_num, hst6, HF, hB6⟩
            case measure => simp [intOf]; omega
        · obtain rfl : k' = k := by omega
          have HF : Hid (v = 0) := Lib.hid (by rw [← hjg.out, List.drop_of_length_le (by rw [List.length_map, HM.out]; exact Nat.le_refl _)]; rfl)
          go_wp2
          go_ret
          exact ⟨by rw [HF.out]; rfl, hB⟩
end Go.Proofs.Ytmjnlmmjfbpogaa
