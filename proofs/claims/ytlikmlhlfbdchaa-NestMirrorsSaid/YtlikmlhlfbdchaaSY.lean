/- Merged: S5 S6. -/
import Derived.Test.YtlikmlhlfbdchaaSX
/- nest: Count of both, for a Check that is known; lists of numbers that are the same. -/
namespace Go.Proofs.Ytlikmlhlfbdchaa
open Go.RowKit Go.Shelf
namespace Ne
/-- how often each of m parts lies there, behind k places -/
def cnL (m : Nat) (pl : List Pc) : Nat → List Int
  | 0 => List.replicate m 0
  | k + 1 => (cnL m pl k).set (pl.getD k zc).p.toNat ((cnL m pl k).getD (pl.getD k zc).p.toNat 0 + 1)
theorem cnL_len (m : Nat) (pl : List Pc) (k : Nat) : (cnL m pl k).length = m := by
  induction k with
  | zero => simp [cnL]
  | succ k ih => unfold cnL; rw [List.length_set, ih]
theorem cnL_bd (m : Nat) (pl : List Pc) (k j : Nat) : 0 ≤ (cnL m pl k).getD j 0 ∧ (cnL m pl k).getD j 0 ≤ (k : Int) := by
  induction k generalizing j with
  | zero => unfold cnL; rw [List.getD_eq_getElem?_getD, List.getElem?_replicate]; split <;> simp
  | succ k ih =>
    have a := ih j
    have b := ih (pl.getD k zc).p.toNat
    unfold cnL
    rw [List.getD_eq_getElem?_getD, List.getElem?_set]
    rw [List.getD_eq_getElem?_getD] at a
    split
    · split
      · simp only [Option.getD_some]; omega
      · simp; omega
    · omega
abbrev inL (l : List Int) : List Value := l.map (.int .i64 ·)
noncomputable def cnV (b : Bo) (ps : List Pa) (pl : List Pc) : List Int := if (ckA b ps pl).2 = 0 then cnL ps.length pl pl.length else []
end Ne
theorem infoIn : (Try.prog.info? 3).map (fun i => (i.zero, i.size, i.bytes)) = some (some (.int .i64 0), 1, 8) := by kernel_rfl
set_option maxRecDepth 100000 in
set_option maxHeartbeats 4000000 in
theorem rCount_of (b : Ne.Bo) (A B C : Option Addr) (ps : List Ne.Pa) (pl : List Ne.Pc) (f fc m c' n c'' : Nat) (hm : ps.length = m) (hn : pl.length = n) (I0 E : Int) (hK : Ne.ckA b ps pl = (I0, E)) (R : List Int) (hR : Ne.cnV b ps pl = R)
    (HC : Hid (∀ W, Rows Ne.rcL 4 W A b.fs → Ne.PaM W B ps → Rows Ne.pcL 4 W C pl → Calls Try.prog 25 #[.agg (boW b A f fc), .slice B m c', .slice C n c''] W fun e w' => e = .returned (.tuple #[.int .i64 I0, .int .i64 E]) ∧ Below W.heap.size W w'))
    (w : World) (hF : Rows Ne.rcL 4 w A b.fs) (hP : Ne.PaM w B ps) (hL : Rows Ne.pcL 4 w C pl) :
    Calls Try.prog 29 #[.agg (boW b A f fc), .slice B m c', .slice C n c''] w fun e w' => ∃ v, e = .returned (.tuple #[v, .int .i64 E]) ∧ w'.ownsRow w.heap.size 3 1 v R.length (Ne.inL R) ∧ Below w.heap.size w w' := by
  have hB := (Below.refl w.heap.size w).alloc (Nat.le_refl _) (.cells (boW b A f fc) 33)
  have bB := Blk.new w 33 (boW b A f fc)
  have hrg := bB.range
  have HF := Lib.hid (hF.below hB)
  have HP := Lib.hid (hP.below hB)
  have HL := Lib.hid (hL.below hB)
  have HM := Lib.hid hm
  have HN := Lib.hid hn
  unfold Ne.cnV at hR
  by_cases h0 : E = 0
  · subst h0
    have hok := Ne.ckA_ok (b := b) (ps := ps) (pl := pl) (by rw [hK])
    rw [hK, if_pos rfl, hm, hn] at hR
    have HRR : Hid (Ne.cnL m pl n = R) := Lib.hid hR
    rw [hn] at hok
    obtain ⟨hvb, hvp⟩ := Ne.vAll_and hok.1
    have h60 := Ne.vPa_len hvp
    rw [hm] at h60
    have hn2 := hok.2.1
    have HLS := Lib.hid (fun k (hk : k < n) => Ne.rg_ls (by have := hok.2.2.1 k hk; unfold Ne.rgI at this; exact this))
    obtain ⟨i0, hi0, hz0, hs0, hy0⟩ := info_parts infoIn
    clear hR hK hok hvb hvp hF hP hL hm hn
    go_enter Try.func29, Try.ntmps29
    go_wp2_with (refine ldm_bo hrg (by rfl) _ rfl rfl (Hid.out ?_))
    refine Lib.hid ?_
    go_wp2_with fail
    refine (HC.out _ HF.out HP.out HL.out).mono ?_
    rintro e w1 ⟨rfl, hb1⟩
    have hB1 := hB.trans (hb1.mono hB.size)
    have HL1 := Lib.hid (HL.out.below hb1)
    clear hrg bB HF HP HL hB hb1
    go_wp2_with (at_make; refine wpList_make_full _ rfl _ _ 50 rfl w1.heap.size 3 i0 _ 1 Try.underlying50 hi0 hz0 hs0 .i64 .i64 _ _ m rfl rfl rfl rfl (by rw [hy0]; omega) (by unfold maxLen; omega) (Nat.le_refl _) ?_; intro w2 hown0 hgrow0)
    have hB2 : Below w1.heap.size w1 w2 := (Below.refl _ w1).grown hgrow0 (Nat.le_refl _) (fun k e => by cases e)
    obtain ⟨gC, hgC⟩ : ∃ gC, w1.heap.size = gC := ⟨_, rfl⟩
    have hown1 : w2.ownsRow w1.heap.size 3 1 (.slice (some ⟨gC, 0, none⟩) m m) m (Ne.inL (Ne.cnL m pl 0)) := by
      rw [← hgC]
      have e : (madeCells (Value.int IntKind.i64 0).cells (m * 1)).toList = Ne.inL (Ne.cnL m pl 0) := by
        show (madeCells #[Value.int .i64 0] (m * 1)).toList = _
        rw [toList_madeCells_one]; unfold Ne.cnL; rw [Nat.mul_one]; unfold Ne.inL; rw [List.map_replicate]
      rw [← e]; exact hown0
    rw [hgC]
    have hgB : w1.heap.size ≤ gC := by omega
    clear hgrow0 hown0
    go_loopw [28] (fun i wr => ∃ (k : Nat), k ≤ n ∧ i = .int .i64 k ∧ wr.ownsRow w1.heap.size 3 1 (.slice (some ⟨gC, 0, none⟩) m m) m (Ne.inL (Ne.cnL m pl k)) ∧ Below w1.heap.size w1 wr) (fun i _ => n - (intOf i).toNat)
    case atStart => exact ⟨0, Nat.zero_le _, rfl, hown1, hB2⟩
    case round =>
      clear hown1 hB2
      obtain ⟨k, hk, rfl, hO, hb⟩ := hrel
      by_cases hlt : k < n
      · obtain ⟨gq, oq, hCe, hg, hc⟩ := (HL1.out.below hb).at (z := Ne.zc) (by rw [HN.out]; omega)
        subst hCe
        have hck := hc k (by rw [HN.out]; exact hlt)
        obtain ⟨p, hp⟩ : ∃ p, pl.getD k Ne.zc = p := ⟨_, rfl⟩
        rw [hp] at hck
        have hls := HLS.out k hlt
        rw [hp] at hls
        obtain ⟨_, _, i, ei, hi⟩ := Ne.lsB_ok hls
        rw [HM.out] at hi
        obtain ⟨pp, px, py, pt⟩ := p
        dsimp only at ei
        subst ei
        obtain ⟨x, hx⟩ : ∃ x, (Ne.cnL m pl k).getD i 0 = x := ⟨_, rfl⟩
        have hxb := Ne.cnL_bd m pl k i
        rw [hx] at hxb
        obtain ⟨xb1, xb2⟩ := hxb
        have hlen := Ne.cnL_len m pl k
        have HS : Hid (Ne.inL (Ne.cnL m pl (k + 1)) = (Ne.inL (Ne.cnL m pl k)).set i (.int .i64 (x + 1))) := Lib.hid (by
          unfold Ne.inL
          rw [Ne.cnL, hp]; dsimp only; rw [Int.toNat_natCast, hx, List.map_set])
        have hb2 := hb.alloc hb.size (.cells (Ne.pcL ⟨i, px, py, pt⟩).toArray 40)
        have bN := Blk.new wr 40 (Ne.pcL ⟨i, px, py, pt⟩).toArray
        have q0 := bN.cell 0
        simp only [List.getElem?_toArray, List.getElem?_cons_zero] at q0
        have hO2 := hO.alloc (.cells (Ne.pcL ⟨i, px, py, pt⟩).toArray 40)
        have cc : (wr.alloc (.cells (Ne.pcL ⟨i, px, py, pt⟩).toArray 40)).cell? ⟨gC, i, none⟩ = some (.int .i64 x) := by
          rw [hO2.cellAt i (by omega)]
          unfold Ne.inL
          rw [List.getElem?_map, ← hx, List.getD_eq_getElem?_getD, List.getElem?_eq_getElem (by omega)]; rfl
        have ff := hO2.frozenAt i
        have hO3 := (hO2.stored i (.int .i64 (x + 1))).1
        have hb3 := hb2.setCell (p := ⟨gC, i, none⟩) hgB (.int .i64 (x + 1))
        rw [← HS.out] at hO3
        have HO3 := Lib.hid hO3
        have hlm : (i : Int) < (m : Int) := by omega
        clear hc hp hls hx hlen bN hO hO2 hO3
        go_wp2_with (refine ldm_pc hck (by rfl) _ rfl rfl (Hid.out ?_))
        refine Lib.hid ?_
        go_wp2
        go_roundw
        case rel => exact ⟨k + 1, by omega, by go_num, HO3.out, hb3⟩
        case measure => simp [intOf]; omega
      · obtain rfl : n = k := by omega
        have hl2 := Ne.cnL_len m pl n
        rw [HRR.out] at hO hl2
        have HO := Lib.hid (hO.mono hB1.size)
        go_wp2
        go_ret2
        exact ⟨_, rfl, by rw [hl2]; exact HO.out, hB1.trans (hb.mono hB1.size)⟩
  · rw [hK, if_neg h0] at hR
    have HRR : Hid (R = []) := Lib.hid hR.symm
    have hne : (E == 0) = false := by simp; exact h0
    clear hR hK hF hP hL hm hn
    go_enter Try.func29, Try.ntmps29
    go_wp2_with (refine ldm_bo hrg (by rfl) _ rfl rfl (Hid.out ?_))
    refine Lib.hid ?_
    go_wp2_with fail
    refine (HC.out _ HF.out HP.out HL.out).mono ?_
    rintro e w1 ⟨rfl, hb1⟩
    have hB1 := hB.trans (hb1.mono hB.size)
    go_wp2
    go_ret2
    exact ⟨.slice none 0 0, rfl, by rw [HRR.out]; exact World.ownsRow_nil _ _ _ _, hB1⟩

set_option maxRecDepth 100000 in
set_option maxHeartbeats 4000000 in
theorem Count_of (b : Ne.Bo) (A B C : Option Addr) (ps : List Ne.Pa) (pl : List Ne.Pc) (f fc m c' n c'' : Nat) (hm : ps.length = m) (hn : pl.length = n) (I0 E : Int) (hK : Ne.ckA b ps pl = (I0, E)) (R : List Int) (hR : Ne.cnV b ps pl = R)
    (HC : Hid (∀ W, Rows Ne.rcL 4 W A b.fs → Ne.PaM W B ps → Rows Ne.pcL 4 W C pl → Calls Try.prog 24 #[.agg (boW b A f fc), .slice B m c', .slice C n c''] W fun e w' => e = .returned (.tuple #[.int .i64 I0, .int .i64 E]) ∧ Below W.heap.size W w'))
    (w : World) (hF : Rows Ne.rcL 4 w A b.fs) (hP : Ne.PaM w B ps) (hL : Rows Ne.pcL 4 w C pl) :
    Calls Try.prog 28 #[.agg (boW b A f fc), .slice B m c', .slice C n c''] w fun e w' => ∃ v, e = .returned (.tuple #[v, .int .i64 E]) ∧ w'.ownsRow w.heap.size 3 1 v R.length (Ne.inL R) ∧ Below w.heap.size w w' := by
  have hB := (Below.refl w.heap.size w).alloc (Nat.le_refl _) (.cells (boW b A f fc) 33)
  have bB := Blk.new w 33 (boW b A f fc)
  have hrg := bB.range
  have HF := Lib.hid (hF.below hB)
  have HP := Lib.hid (hP.below hB)
  have HL := Lib.hid (hL.below hB)
  have HM := Lib.hid hm
  have HN := Lib.hid hn
  unfold Ne.cnV at hR
  by_cases h0 : E = 0
  · subst h0
    have hok := Ne.ckA_ok (b := b) (ps := ps) (pl := pl) (by rw [hK])
    rw [hK, if_pos rfl, hm, hn] at hR
    have HRR : Hid (Ne.cnL m pl n = R) := Lib.hid hR
    rw [hn] at hok
    obtain ⟨hvb, hvp⟩ := Ne.vAll_and hok.1
    have h60 := Ne.vPa_len hvp
    rw [hm] at h60
    have hn2 := hok.2.1
    have HLS := Lib.hid (fun k (hk : k < n) => Ne.rg_ls (by have := hok.2.2.1 k hk; unfold Ne.rgI at this; exact this))
    obtain ⟨i0, hi0, hz0, hs0, hy0⟩ := info_parts infoIn
    clear hR hK hok hvb hvp hF hP hL hm hn
    go_enter Try.func28, Try.ntmps28
    go_wp2_with (refine ldm_bo hrg (by rfl) _ rfl rfl (Hid.out ?_))
    refine Lib.hid ?_
    go_wp2_with fail
    refine (HC.out _ HF.out HP.out HL.out).mono ?_
    rintro e w1 ⟨rfl, hb1⟩
    have hB1 := hB.trans (hb1.mono hB.size)
    have HL1 := Lib.hid (HL.out.below hb1)
    clear hrg bB HF HP HL hB hb1
    go_wp2_with (at_make; refine wpList_make_full _ rfl _ _ 50 rfl w1.heap.size 3 i0 _ 1 Try.underlying50 hi0 hz0 hs0 .i64 .i64 _ _ m rfl rfl rfl rfl (by rw [hy0]; omega) (by unfold maxLen; omega) (Nat.le_refl _) ?_; intro w2 hown0 hgrow0)
    have hB2 : Below w1.heap.size w1 w2 := (Below.refl _ w1).grown hgrow0 (Nat.le_refl _) (fun k e => by cases e)
    obtain ⟨gC, hgC⟩ : ∃ gC, w1.heap.size = gC := ⟨_, rfl⟩
    have hown1 : w2.ownsRow w1.heap.size 3 1 (.slice (some ⟨gC, 0, none⟩) m m) m (Ne.inL (Ne.cnL m pl 0)) := by
      rw [← hgC]
      have e : (madeCells (Value.int IntKind.i64 0).cells (m * 1)).toList = Ne.inL (Ne.cnL m pl 0) := by
        show (madeCells #[Value.int .i64 0] (m * 1)).toList = _
        rw [toList_madeCells_one]; unfold Ne.cnL; rw [Nat.mul_one]; unfold Ne.inL; rw [List.map_replicate]
      rw [← e]; exact hown0
    rw [hgC]
    have hgB : w1.heap.size ≤ gC := by omega
    clear hgrow0 hown0
    go_loopw [28] (fun i wr => ∃ (k : Nat), k ≤ n ∧ i = .int .i64 k ∧ wr.ownsRow w1.heap.size 3 1 (.slice (some ⟨gC, 0, none⟩) m m) m (Ne.inL (Ne.cnL m pl k)) ∧ Below w1.heap.size w1 wr) (fun i _ => n - (intOf i).toNat)
    case atStart => exact ⟨0, Nat.zero_le _, rfl, hown1, hB2⟩
    case round =>
      clear hown1 hB2
      obtain ⟨k, hk, rfl, hO, hb⟩ := hrel
      by_cases hlt : k < n
      · obtain ⟨gq, oq, hCe, hg, hc⟩ := (HL1.out.below hb).at (z := Ne.zc) (by rw [HN.out]; omega)
        subst hCe
        have hck := hc k (by rw [HN.out]; exact hlt)
        obtain ⟨p, hp⟩ : ∃ p, pl.getD k Ne.zc = p := ⟨_, rfl⟩
        rw [hp] at hck
        have hls := HLS.out k hlt
        rw [hp] at hls
        obtain ⟨_, _, i, ei, hi⟩ := Ne.lsB_ok hls
        rw [HM.out] at hi
        obtain ⟨pp, px, py, pt⟩ := p
        dsimp only at ei
        subst ei
        obtain ⟨x, hx⟩ : ∃ x, (Ne.cnL m pl k).getD i 0 = x := ⟨_, rfl⟩
        have hxb := Ne.cnL_bd m pl k i
        rw [hx] at hxb
        obtain ⟨xb1, xb2⟩ := hxb
        have hlen := Ne.cnL_len m pl k
        have HS : Hid (Ne.inL (Ne.cnL m pl (k + 1)) = (Ne.inL (Ne.cnL m pl k)).set i (.int .i64 (x + 1))) := Lib.hid (by
          unfold Ne.inL
          rw [Ne.cnL, hp]; dsimp only; rw [Int.toNat_natCast, hx, List.map_set])
        have hb2 := hb.alloc hb.size (.cells (Ne.pcL ⟨i, px, py, pt⟩).toArray 40)
        have bN := Blk.new wr 40 (Ne.pcL ⟨i, px, py, pt⟩).toArray
        have q0 := bN.cell 0
        simp only [List.getElem?_toArray, List.getElem?_cons_zero] at q0
        have hO2 := hO.alloc (.cells (Ne.pcL ⟨i, px, py, pt⟩).toArray 40)
        have cc : (wr.alloc (.cells (Ne.pcL ⟨i, px, py, pt⟩).toArray 40)).cell? ⟨gC, i, none⟩ = some (.int .i64 x) := by
          rw [hO2.cellAt i (by omega)]
          unfold Ne.inL
          rw [List.getElem?_map, ← hx, List.getD_eq_getElem?_getD, List.getElem?_eq_getElem (by omega)]; rfl
        have ff := hO2.frozenAt i
        have hO3 := (hO2.stored i (.int .i64 (x + 1))).1
        have hb3 := hb2.setCell (p := ⟨gC, i, none⟩) hgB (.int .i64 (x + 1))
        rw [← HS.out] at hO3
        have HO3 := Lib.hid hO3
        have hlm : (i : Int) < (m : Int) := by omega
        clear hc hp hls hx hlen bN hO hO2 hO3
        go_wp2_with (refine ldm_pc hck (by rfl) _ rfl rfl (Hid.out ?_))
        refine Lib.hid ?_
        go_wp2
        go_roundw
        case rel => exact ⟨k + 1, by omega, by go_num, HO3.out, hb3⟩
        case measure => simp [intOf]; omega
      · obtain rfl : n = k := by omega
        have hl2 := Ne.cnL_len m pl n
        rw [HRR.out] at hO hl2
        have HO := Lib.hid (hO.mono hB1.size)
        go_wp2
        go_ret2
        exact ⟨_, rfl, by rw [hl2]; exact HO.out, hB1.trans (hb.mono hB1.size)⟩
  · rw [hK, if_neg h0] at hR
    have HRR : Hid (R = []) := Lib.hid hR.symm
    have hne : (E == 0) = false := by simp; exact h0
    clear hR hK hF hP hL hm hn
    go_enter Try.func28, Try.ntmps28
    go_wp2_with (refine ldm_bo hrg (by rfl) _ rfl rfl (Hid.out ?_))
    refine Lib.hid ?_
    go_wp2_with fail
    refine (HC.out _ HF.out HP.out HL.out).mono ?_
    rintro e w1 ⟨rfl, hb1⟩
    have hB1 := hB.trans (hb1.mono hB.size)
    go_wp2
    go_ret2
    exact ⟨.slice none 0 0, rfl, by rw [HRR.out]; exact World.ownsRow_nil _ _ _ _, hB1⟩

end Go.Proofs.Ytlikmlhlfbdchaa
/- nest: pieces in memory; isClear of the program. -/
namespace Go.Proofs.Ytlikmlhlfbdchaa
open Go.RowKit Go.Shelf
namespace Ne
theorem self_bes {l : List Geo.XY} {g : Int} {d : Geo.XY} (h : lo1 d l < hi1 d l) : bes l l g d = false := by
  unfold bes btw farB
  apply decide_eq_false
  split <;> omega
theorem side_wide {l : List Geo.XY} (h : Valid l) {k : Nat} (hk : k < l.length) : lo1 (sdir l k) l < hi1 (sdir l k) l := by
  have h3 := h.1
  have hm : (k + 1) % l.length < l.length := Nat.mod_lt _ (by omega)
  obtain ⟨j, hj, j1, j2⟩ : ∃ j, j < l.length ∧ j ≠ k ∧ j ≠ (k + 1) % l.length := by
    by_cases a : 0 ≠ k ∧ 0 ≠ (k + 1) % l.length
    · exact ⟨0, by omega, a.1, a.2⟩
    · by_cases b : 1 ≠ k ∧ 1 ≠ (k + 1) % l.length
      · exact ⟨1, by omega, b.1, b.2⟩
      · exact ⟨2, by omega, by omega, by omega⟩
  have hc := h.2.2.2 k hk j hj j1 j2
  rw [Geo.At_lt _ hk, ← Geo.At_mod l (k + 1), Geo.At_lt _ hm, Geo.At_lt _ hj] at hc
  have a1 := lo_min (sdir l k) hj
  have a2 := hi_max (sdir l k) hk
  have e : dt (sdir l k) (Geo.X l j) = dt (sdir l k) (Geo.X l k) - Geo.Cross (Geo.X l k) (Geo.X l ((k + 1) % l.length)) (Geo.X l j) := by
    unfold dt sdir Geo.Cross; simp only; grind
  have hc' : 0 < Geo.Cross (Geo.X l k) (Geo.X l ((k + 1) % l.length)) (Geo.X l j) := hc
  omega
/-- no outline is apart from itself -/
theorem self_ap {l : List Geo.XY} (h : Valid l) (g : Int) : apB l l g = false := by
  obtain ⟨p1, p2⟩ := ard_pos h
  have key : ∀ k, k ≤ l.length → besAny l l g l k = false := fun k => by
    induction k with
    | zero => intro _; rfl
    | succ k ih => intro hk; unfold besAny; rw [ih (by omega), self_bes (side_wide h (by omega))]; rfl
  unfold apB
  rw [self_bes p1, self_bes p2, key _ (Nat.le_refl _)]; rfl
/-- a piece in memory: its place, and where its corners lie -/
structure Pi where
  p : Pc
  a : Option Addr
  (n c : Nat)
def zi : Pi := ⟨zc, none, 0, 0⟩
abbrev piL (x : Pi) : List Value := [.int .i64 x.p.p, .int .i64 x.p.x, .int .i64 x.p.y, .bool x.p.t, .slice x.a x.n x.c]
theorem encPi : Enc piL 5 where
  pos := by decide
  len _ := rfl
  one x v hv := by simp [piL] at hv; rcases hv with rfl | rfl | rfl | rfl | rfl <;> rfl
/-- its corners lie there -/
structure PiOk (ps : List Pa) (W : World) (x : Pi) : Prop where
  pts : Pts W x.a (lyg ps x.p)
  len : (lyg ps x.p).length = x.n
  cap : x.n ≤ x.c
theorem PiOk.below {ps : List Pa} {W W' : World} {x : Pi} (h : PiOk ps W x) (hb : Below W.heap.size W W') : PiOk ps W' x := ⟨h.pts.below hb, h.len, h.cap⟩
/-- apart from the first j of others -/
noncomputable def icK (ps : List Pa) (p : Pc) (xs : List Pi) (g : Int) : Nat → Bool
  | 0 => true
  | j + 1 => icK ps p xs g j && apB (lyg ps p) (lyg ps (xs.getD j zi).p) g
theorem icK_mono {ps : List Pa} {p : Pc} {xs : List Pi} {g : Int} {j k : Nat} (h : j ≤ k) (hk : icK ps p xs g k = true) : icK ps p xs g j = true := by
  induction k with
  | zero => obtain rfl : j = 0 := by omega
            rfl
  | succ k ih =>
    by_cases e : j = k + 1
    · subst e; exact hk
    · unfold icK at hk; simp only [Bool.and_eq_true] at hk; exact ih (by omega) hk.1
theorem lyg_valid {ps : List Pa} {p : Pc} (hv : vPa ps = true) (h : lsB ps p = true) (g : Int) : apB (lyg ps p) (lyg ps p) g = false := by
  obtain ⟨_, _, i, ei, hi⟩ := lsB_ok h
  have hval := frm_valid (valid_of (vPa_at hv (q := i) hi)) p.t
  have he : lyg ps p = (frm (ps.getD i za).o p.t).map (addXY (p.x, p.y)) := by unfold lyg; rw [ei, Int.toNat_natCast]
  rw [he, ap_map (by have := hval.1; omega) (by have := hval.1; omega), self_ap hval]
end Ne
section
variable {ops : Array Oper} {rest : List Oper} {o : Oper} {a : Act} {w : World} {Q : Exit → Act → World → Prop} {b off : Nat}
theorem infoPi : (Try.prog.info? 121).map (·.size) = some 5 := by kernel_rfl
theorem ldm_pi {s : Ne.Pi} (hr : w.rangeAt b off (Ne.piL s)) (hw : Region.wanted o (yielded ops a.tmps) = true) (x : Operand) (ho : o.op = .load 121 x)
    (hx : a.eval x = .pointer (some ⟨b, off, none⟩)) (h : wpList Try.prog ops Q rest (a.put o.dst (.agg (Ne.piL s).toArray)) w) : wpList Try.prog ops Q (o :: rest) a w :=
  wpList_wanted hw fun _ hK => wp_load_mid 121 x ho b off hx (Ne.piL s) _ hr Try.underlying121 rfl infoPi (hK _ _ h)
end
set_option maxRecDepth 100000 in
set_option maxHeartbeats 4000000 in
theorem isclear_b (ps : List Ne.Pa) (hvp : Ne.vPa ps = true) (b : Ne.Bo) (hw : b.w ≤ 60000) (hh : b.h ≤ 60000) (x : Ne.Pi) (xs : List Ne.Pi) (A : Option Addr) (n c : Nat) (hn : xs.length = n) (hnM : n ≤ 100000) (g : Int) (hg : 0 ≤ g) (hg' : g ≤ 2000)
    (hx : Ne.lsB ps x.p = true) (hxs : ∀ j, j < n → Ne.lsB ps (xs.getD j Ne.zi).p = true) (hxo : Ne.OnB b (Ne.lyg ps x.p)) (hxso : ∀ j, j < n → Ne.OnB b (Ne.lyg ps (xs.getD j Ne.zi).p)) (r : Bool) (hr : Ne.icK ps x.p xs g n = r) (w : World) (hX : Ne.PiOk ps w x) (hR : Rows Ne.piL 5 w A xs) (hXS : ∀ j, j < n → Ne.PiOk ps w (xs.getD j Ne.zi)) :
    Calls Try.prog 107 #[.agg (Ne.piL x).toArray, .slice A n c, .int .i64 g] w fun e w' => e = .returned (.bool r) ∧ Below w.heap.size w w' := by
  have hB := (Below.refl w.heap.size w).alloc (Nat.le_refl _) (.cells (Ne.piL x).toArray 121)
  have bX := Blk.new w 121 (Ne.piL x).toArray
  have HV : Hid (r = Ne.icK ps x.p xs g n) := Lib.hid hr.symm
  have HNO : Hid (∀ k, k < n → Ne.icK ps x.p xs g (k + 1) = false → r = false) := Lib.hid (fun k hk h => by
    rw [HV.out]
    cases e : Ne.icK ps x.p xs g n with
    | false => rfl
    | true => rw [Ne.icK_mono (show k + 1 ≤ n by omega) e] at h; cases h)
  have HA := Lib.hid (fun (q : Ne.Pc) (hq : Ne.lsB ps q = true) (hqo : Ne.OnB b (Ne.lyg ps q)) (M c2 : Nat) (hM : (Ne.lyg ps q).length = M) (hc2 : M ≤ c2) (z : Bool) (hz : Ne.apB (Ne.lyg ps x.p) (Ne.lyg ps q) g = z) D W (h1 : Pts W x.a (Ne.lyg ps x.p)) (h2 : Pts W D (Ne.lyg ps q)) => by
    have b1 := Ne.lyg_bd hvp hx
    have b2 := Ne.lyg_bd hvp hq
    exact areapart_b x.a D (Ne.lyg ps x.p) (Ne.lyg ps q) x.c c2 x.n M hX.len hM g (by rw [← hX.len]; omega) (by rw [← hX.len]; omega) hX.cap (by omega) (by omega) hc2 b1.1 b2.1 (Ne.dir_ls hvp hx) (Ne.dir_ls hvp hq) (Ne.near_on hw hh hxo hqo) hg hg' z hz W h1 h2)
  have HSELF := Lib.hid (Ne.lyg_valid hvp hx g)
  have HX := Lib.hid (hX.pts.below hB)
  have HR := Lib.hid (hR.below hB)
  have HXS := Lib.hid (fun j hj => (hXS j hj).below hB)
  have HLS := Lib.hid hxs
  have HOS := Lib.hid hxso
  have HN := Lib.hid hn
  clear hr hX hR hXS hxs hxso hn hx hvp hxo
  go_enter Try.func107, Try.ntmps107
  go_wp2
  generalize w.alloc (.cells (Ne.piL x).toArray 121) = w1 at *
  go_loopw [11] (fun i wr => ∃ k : Nat, k ≤ n ∧ i = .int .i64 k ∧ Ne.icK ps x.p xs g k = true ∧ Below w1.heap.size w1 wr) (fun i _ => n - (intOf i).toNat)
  case atStart => exact ⟨0, Nat.zero_le _, rfl, rfl, Below.refl _ _⟩
  case round =>
    obtain ⟨k, hk, rfl, hv, hb⟩ := hrel
    have HVK := Lib.hid hv
    clear hv
    by_cases hlt : k < n
    · obtain ⟨gq, oq, hCe, hg9, hc⟩ := (HR.out.below hb).at (z := Ne.zi) (by rw [HN.out]; omega)
      subst hCe
      have hck := hc k (by rw [HN.out]; exact hlt)
      have hls := HLS.out k hlt
      have hos := HOS.out k hlt
      have hok := (HXS.out k hlt).below hb
      obtain ⟨y, hy⟩ : ∃ y, xs.getD k Ne.zi = y := ⟨_, rfl⟩
      rw [hy] at hck hls hos hok
      obtain ⟨z, hz⟩ : ∃ z, Ne.apB (Ne.lyg ps x.p) (Ne.lyg ps y.p) g = z := ⟨_, rfl⟩
      have HS : Hid (Ne.icK ps x.p xs g (k + 1) = z) := Lib.hid (by rw [Ne.icK, HVK.out, hy, hz]; rfl)
      have HAk := Lib.hid (HA.out y.p hls hos y.n y.c hok.len hok.cap z hz)
      have hb2 := hb.alloc hb.size (.cells (Ne.piL y).toArray 121)
      have hba := (Below.refl wr.heap.size wr).alloc (Nat.le_refl _) (.cells (Ne.piL y).toArray 121)
      have HPY := Lib.hid (hok.pts.below hba)
      have bX2 := (bX.below hb bX.lt).alloc (.cells (Ne.piL y).toArray 121)
      have bY := Blk.new wr 121 (Ne.piL y).toArray
      have rX : World.rangeAt _ w.heap.size 0 (Ne.pcL x.p) := range_pre (ys := [.slice x.a x.n x.c]) bX2.range
      have rY : World.rangeAt _ wr.heap.size 0 (Ne.pcL y.p) := range_pre (ys := [.slice y.a y.n y.c]) bY.range
      have p4 := bX2.cell 4
      have q4 := bY.cell 4
      simp only [List.getElem?_toArray, List.getElem?_cons_zero, List.getElem?_cons_succ] at p4 q4
      obtain ⟨e, he⟩ : ∃ e, decide (x.p = y.p) = e := ⟨_, rfl⟩
      have hq := run_eqPc x.p y.p e he
      have HZE : Hid (e = true → z = false) := Lib.hid (fun h => by
        have := of_decide_eq_true (he.trans h)
        rw [← hz, ← this]; exact HSELF.out)
      clear hc hls hos hok hy hz hba bX2 bY
      cases e with
      | true =>
        have HZ := Lib.hid (HZE.out rfl)
        go_wp2_with (first | refine ldm_pi hck (by rfl) _ rfl rfl ?_ | refine ldm_pc rX (by rfl) _ rfl rfl ?_ | refine ldm_pc rY (by rfl) _ rfl rfl ?_)
        go_ret
        exact ⟨by rw [HNO.out k hlt (HS.out.trans HZ.out)]; rfl, hB.trans (hb2.mono hB.size)⟩
      | false =>
        go_wp2_with (first | refine ldm_pi hck (by rfl) _ rfl rfl ?_ | refine ldm_pc rX (by rfl) _ rfl rfl ?_ | refine ldm_pc rY (by rfl) _ rfl rfl ?_)
        refine (HAk.out _ _ (HX.out.below hb2) HPY.out).mono ?_
        rintro e w3 ⟨rfl, hb5⟩
        have hb6 := hb2.trans (hb5.mono hb2.size)
        cases z with
        | false =>
          go_wp2
          go_ret
          exact ⟨by rw [HNO.out k hlt HS.out]; rfl, hB.trans (hb6.mono hB.size)⟩
        | true =>
          go_wp2
          go_roundw
          case rel => exact ⟨k + 1, by omega, by go_num, HS.out, hb6⟩
          case measure => simp [intOf]; omega
    · obtain rfl : n = k := by omega
      go_wp2
      go_ret
      exact ⟨by rw [HV.out, HVK.out]; rfl, hB.trans (hb.mono hB.size)⟩
end Go.Proofs.Ytlikmlhlfbdchaa
