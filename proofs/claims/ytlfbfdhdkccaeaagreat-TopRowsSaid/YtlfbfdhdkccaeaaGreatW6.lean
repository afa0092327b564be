/- arrange. -/
import Derived.Test.YtlfbfdhdkccaeaaGreatW5
import Derived.Test.YtlfbfdhdkccaeaaGreatW2
namespace Go.Proofs.YtlfbfdhdkccaeaaGreat
open Go.RowKit Go.Shelf

abbrev RwI (W : World) (B : Nat) (v : Value) (f : Nat → Value) (rows : List (List Nat)) : Prop := Rws 32 3 irc 1 W B v f rows
theorem info42 : (Tryz.prog.info? 32).map (fun i => (i.zero, i.size, i.bytes)) = some (some (.slice none 0 0), 1, 24) := by kernel_rfl
/-- nothing below B has turned but block b -/
structure Sv (B b : Nat) (w w' : World) : Prop where
  size : B ≤ w'.heap.size
  block : ∀ k, k < B → k ≠ b → w'.heap[k]? = w.heap[k]?
theorem Sv.cell {B b : Nat} {w w' : World} (h : Sv B b w w') {p : Addr} (h1 : p.block < B) (h2 : p.block ≠ b) : w'.cell? p = w.cell? p := World.cell?_of_block (h.block p.block h1 h2)
theorem Sv.below {B b : Nat} {w w' w'' : World} (h : Sv B b w w') (hb : Below B w' w'') : Sv B b w w'' := ⟨Nat.le_trans h.size hb.size, fun k h1 h2 => (hb.block k h1).trans (h.block k h1 h2)⟩
theorem Sv.grown {B b : Nat} {w w' w'' : World} (h : Sv B b w w') (hg : w'.grownBy w'' (some b)) : Sv B b w w'' := ⟨Nat.le_trans h.size hg.size, fun k h1 h2 => (hg.block k (Nat.lt_of_lt_of_le h1 h.size) (fun e => h2 (by cases e; rfl))).trans (h.block k h1 h2)⟩

theorem Rws.cell {to ti : TypeId} {α : Type} {enc : α → List Value} {k : Nat} {W : World} {B g n cap : Nat} {f : Nat → Value} {rows : List (List α)} (h : Rws to ti enc k W B (.slice (some ⟨g, 0, none⟩) n cap) f rows) {q : Nat} (hq : q < n) : W.cell? ⟨g, q, none⟩ = some (f q) := by
  obtain rfl := h.len
  rw [h.own.cellAt q (by omega), List.getElem?_map, List.getElem?_range hq]; rfl
theorem Rws.at9 {to ti : TypeId} {α : Type} {enc : α → List Value} {k : Nat} {W W1 : World} {B g n cap : Nat} {f : Nat → Value} {rows : List (List α)} (h : Rws to ti enc k W B (.slice (some ⟨g, 0, none⟩) n cap) f rows) {q : Nat} (hq : q < n) (hg : W.grownBy W1 (f q).ownBlock) : W1.cell? ⟨g, q, none⟩ = some (f q) ∧ W1.frozen? ⟨g, q, none⟩ = false := by
  have hn := h.len
  have hgl := (h.own.lt g rfl).2
  have hne : some g ≠ (f q).ownBlock := by
    rcases h.far q (by omega) with e | e
    · rw [e]; simp
    · exact fun e2 => e e2.symm
  have hb := hg.block g hgl hne
  refine ⟨(World.cell?_of_block (a := ⟨g, q, none⟩) hb).trans (h.cell hq), (World.frozen?_of_block (a := ⟨g, q, none⟩) hb).trans ?_⟩
  subst hn
  exact h.own.frozenAt q
theorem Rws.keptLow {to ti : TypeId} {α : Type} {enc : α → List Value} {k : Nat} {W W' : World} {B b : Nat} {v : Value} {f : Nat → Value} {rows : List (List α)} (h : Rws to ti enc k W B v f rows) (hg : W.grownBy W' (some b)) (hb : b < B) : Rws to ti enc k W' B v f rows := by
  refine h.kept hg ?_ (fun j hj => ?_)
  · cases e : v.ownBlock with
    | none => exact .inl rfl
    | some s => refine .inr (fun e2 => ?_); cases e2; have := (h.own.lt _ e).1; omega
  · cases e : (f j).ownBlock with
    | none => exact .inl rfl
    | some s => refine .inr (fun e2 => ?_); cases e2; have := ((h.row j hj).lt _ e).1; omega
theorem MapN.belowB {W W' : World} {b n B : Nat} {f : Nat → Option Nat} (h : MapN W b n f) (hb : Below B W W') (hlt : b < B) : MapN W' b n f := by
  obtain ⟨D, ⟨es, clock, h1, h2⟩, h3⟩ := h
  exact ⟨D, ⟨es, clock, (hb.block b hlt).trans h1, h2⟩, h3⟩
theorem own_pos {W : World} {B k n : Nat} {t : TypeId} {v : Value} {xs : List Value} (h : W.ownsRow B t k v (n + 1) xs) : ∃ g c, v = .slice (some ⟨g, 0, none⟩) (n + 1) c := by
  rcases h.2 with ⟨_, hz⟩ | ⟨g, cap, cur, e, _⟩
  · omega
  · exact ⟨g, cap, e⟩
theorem Rws.atq {to ti : TypeId} {α : Type} {enc : α → List Value} {k : Nat} {W W1 : World} {B g n cap : Nat} {f : Nat → Value} {rows : List (List α)} (h : Rws to ti enc k W B (.slice (some ⟨g, 0, none⟩) n cap) f rows) {q s : Nat} (hq : q < n) (hs : s < n) (hg : W.grownBy W1 (f q).ownBlock) : W1.cell? ⟨g, s, none⟩ = some (f s) := by
  have hn := h.len
  have hgl := (h.own.lt g rfl).2
  have hne : some g ≠ (f q).ownBlock := by
    rcases h.far q (by omega) with e | e
    · rw [e]; simp
    · exact fun e2 => e e2.symm
  exact (World.cell?_of_block (a := ⟨g, s, none⟩) (hg.block g hgl hne)).trans (h.cell hs)
theorem own_rows {α : Type} {enc : α → List Value} {k : Nat} (E : Enc enc k) {W : World} {B n c : Nat} {t : TypeId} {A : Option Addr} {xs : List α} (h : W.ownsRow B t k (.slice A n c) xs.length (flt enc xs)) : Rows enc k W A xs ∧ n = xs.length := by
  obtain ⟨A', c', e, h2, _⟩ := rows_of_owns E h
  cases e
  exact ⟨h2, rfl⟩
theorem push_open {to ti : TypeId} {α : Type} {enc : α → List Value} {k : Nat} {W W4 : World} {B m : Nat} {v v' : Value} {f : Nat → Value} {rows : List (List α)} (h : Rws to ti enc k W B v f rows) (hm : rows.length = m)
    (ho : W4.ownsRow B to 1 v' (m + 1) ((List.range m).map f ++ [.slice none 0 0])) (hg : W.grownBy W4 v.ownBlock) (hl : v'.ownBlock = v.ownBlock ∨ v'.ownBlock = some W.heap.size) :
    ∃ g cap, v' = .slice (some ⟨g, 0, none⟩) (m + 1) cap ∧ g < W4.heap.size ∧ Rws to ti enc k W4 B (.slice (some ⟨g, 0, none⟩) (m + 1) cap) (fun j => if j = m then .slice none 0 0 else f j) (rows ++ [[]]) := by
  have hp := h.push hm ho hg hl
  rcases ho.2 with ⟨_, hz⟩ | ⟨g, cap, cur, e, _, hb, _⟩
  · omega
  · subst e
    exact ⟨g, cap, rfl, (ho.lt g rfl).2, hp⟩

set_option maxRecDepth 100000 in
set_option maxHeartbeats 8000000 in
theorem arrange_any (A : Option Addr) (l : List Pl.Bt) (c n : Nat) (hn : l.length = n) (h : Pl.Ok l) (w : World) (hI : Bts w A l) :
    Calls Tryz.prog 17 #[.slice A n c] w fun e w' => ∃ v b f, e = .returned (.tuple #[v, .map (some b)]) ∧ RwI w' w.heap.size v f (Pl.R l) ∧ MapN w' b n (Pl.br l n) ∧ Below w.heap.size w w' := by
  have HI := Lib.hid hI
  have HN := Lib.hid hn
  have hl : n ≤ 40 := hn ▸ h.len
  have HC := Lib.hid (fun w' (hI : Bts w' A l) => lightest_any A l c n hn h w' hI)
  have HRF := Lib.hid (fun k (hk : k ≤ n) j hj => Pl.row_facts h (k := k) (by omega) (j := j) hj)
  have HRL := Lib.hid (fun k => Pl.gr_len (l := l) k)
  have HNX := Lib.hid (fun k (hk : k < n) => Pl.nx_lt (l := l) (k := k) (by omega))
  have HOL : Hid ((Pl.ord l).length = n) := Lib.hid (by rw [Pl.ord_len, hn])
  have HRR : Hid (Pl.R l = Pl.gr l n) := Lib.hid (by rw [← hn]; rfl)
  have HG0 := Lib.hid (fun k (hk : k < n) => (Pl.Gd.rfok h (k := k) (by omega) (Pl.Gd.all h k (by omega))).len)
  obtain ⟨i3, hi3, hz3, hn3, hy3⟩ := info_parts info3
  obtain ⟨i42, hi42, hz42, hn42, hy42⟩ := info_parts info42
  have hmm := @run_makeMap Tryz.prog
  have hB0 := (Below.refl w.heap.size w).alloc (Nat.le_refl _) (.map #[] 0)
  have HM0 := Lib.hid (MapN.made w)
  have HI0 := Lib.hid (hI.below ((Below.refl w.heap.size w).alloc (Nat.le_refl _) (.map #[] 0)))
  have hs0 : (w.alloc (.map #[] 0)).heap.size = w.heap.size + 1 := by simp
  clear hI h hn
  obtain ⟨wa, hwa⟩ : ∃ wa, wa = w.alloc (.map #[] 0) := ⟨_, rfl⟩
  rw [← hwa] at hB0 HM0 HI0 hs0
  go_enter Tryz.func17, Tryz.ntmps17
  go_wp2_with fail
  rw [← hwa]
  clear hwa hmm
  refine (HC.out _ HI0.out).mono ?_
  rintro e w2 ⟨v2, rfl, hown2, hb2⟩
  have hown2' : w2.ownsRow wa.heap.size 3 1 v2 (Pl.ord l).length (flt irc (Pl.ord l)) := by rw [HOL.out]; exact hown2
  have hblk := hown2.lt
  obtain ⟨AO, cO, rfl, hrO, hcO, _⟩ := rows_of_owns encIr hown2'
  have hB2 := hB0.trans (hb2.mono hB0.size)
  have HM2 := Lib.hid (HM0.out.below hb2)
  have hmb : w.heap.size < w2.heap.size := HM2.out.lt
  have hs2 : wa.heap.size ≤ w2.heap.size := hb2.size
  have HO := Lib.hid hrO
  have HBK := Lib.hid hblk
  rw [HOL.out] at hcO ⊢
  clear hown2 hown2' hrO hb2 HI0 HM0 HC hblk
  go_wp2
  go_loopw [2, 5, 6, 11] (fun v _ _ i wr => ∃ k : Nat, ∃ f, k ≤ n ∧ i = .int .i64 k ∧ RwI wr w2.heap.size v f (Pl.gr l k) ∧ MapN wr w.heap.size k (Pl.br l k) ∧ Sv w2.heap.size w.heap.size w2 wr ∧ Below w.heap.size w wr) (fun _ _ _ i _ => n - (intOf i).toNat)
  case atStart => exact ⟨0, (fun _ => .slice none 0 0), Nat.zero_le _, rfl, Rws.nil _ _ _, HM2.out, ⟨Nat.le_refl _, fun _ _ _ => rfl⟩, hB2⟩
  case round =>
    clear HM2 hB2
    obtain ⟨k, f, hk, rfl, hR, hM, hS, hB⟩ := hrel
    obtain ⟨wo, rfl⟩ : ∃ wo, wo = wr := ⟨_, rfl⟩
    by_cases hlt : k < n
    · have hltI : (k : Int) < (n : Int) := by omega
      have hko : k < (Pl.ord l).length := by rw [HOL.out]; exact hlt
      obtain ⟨bo, oo, rfl, hbo, hco⟩ := HO.out.open (by omega)
      have hbo1 : wa.heap.size ≤ bo := (HBK.out bo rfl).1
      have q0 : wo.cell? ⟨bo, oo + k, none⟩ = some (.int .i64 (Pl.nx l k : Nat)) := by
        have h1 := hco k hko 0 _ rfl
        rw [Nat.mul_one, Nat.add_zero] at h1
        rw [hS.cell (p := ⟨bo, oo + k, none⟩) hbo (by show bo ≠ w.heap.size; omega), h1]
        unfold Pl.nx
        rw [List.getD_eq_getElem?_getD, List.getElem?_eq_getElem hko]; rfl
      have hx : Pl.nx l k < n := by have := HNX.out k hlt; rw [HN.out] at this; exact this
      obtain ⟨bz, oz, rfl, hbz, hcz⟩ := bts_open HI.out (by rw [HN.out]; omega)
      have hck := bts_cells hbz hcz hB (i := Pl.nx l k) (by rw [HN.out]; exact hx)
      have hxI : ((Pl.nx l k : Nat) : Int) < (n : Int) := by omega
      obtain ⟨AR, cR, hv, hRR, hcR, _⟩ := hR.open encIr
      have HRR1 := Lib.hid hRR
      have hr1 := HG0.out k hlt
      have hgl := HRL.out k
      have HRF1 := Lib.hid (HRF.out k hk)
      have HRF2 := Lib.hid (HRF.out (k + 1) hlt)
      have HPUT : Hid (Pl.gr l (k + 1) = Pl.put (Pl.gr l k) (Pl.rw l k) (Pl.nx l k)) := Lib.hid rfl
      have HBR : Hid (∀ j, Pl.br l (k + 1) j = if 0 < Pl.rw l k ∧ j = Pl.nx l k then some (Pl.lst ((Pl.gr l (k + 1)).getD (Pl.rw l k - 1) [])) else Pl.br l k j) := Lib.hid (fun _ => rfl)
      have HRW : Hid (Pl.rf l (Pl.gr l k) (Pl.at' l (Pl.nx l k)) = Pl.rw l k) := Lib.hid rfl
      have HI1 := Lib.hid (HI.out.below (hB.mono (Nat.le_refl _)))
      clear hcz hco hRR
      generalize hro : Pl.gr l k = rows at *
      have HRO := Lib.hid hro
      clear hro
      generalize Pl.rw l k = r at *
      obtain ⟨m, hm⟩ : ∃ m, rows.length = m := ⟨_, rfl⟩
      have HMl := Lib.hid hm
      rw [hm] at hr1 hgl hcR hv
      subst hv
      generalize hx' : Pl.nx l k = x at *
      clear hx' hm
      go_wp2_with (refine ldm_bt hck rfl _ rfl rfl ?_)
      refine (rowFor_b (some ⟨bz, oz, none⟩) l c n HN.out hl AR rows cR m HMl.out (by omega) (fun j hj => by have := HRF1.out j (by rw [HMl.out]; exact hj); rw [HN.out] at this; exact this) _ _ HI1.out HRR1.out).mono ?_
      rw [HRW.out]
      rintro e w3 ⟨rfl, hb3⟩
      have hR3 := hR.below hb3
      have hM3 := hM.below hb3
      have hS3 := hS.below (hb3.mono hS.size)
      have hB3 := hB.trans (hb3.mono hB.size)
      clear hR hM hS hB hb3 hck q0 HRR1 HI1
      have hmw : w.heap.size < w2.heap.size := hmb
      have HPO : Hid (∀ j, j < (Pl.gr l (k + 1)).length → 0 < ((Pl.gr l (k + 1)).getD j []).length ∧ ((Pl.gr l (k + 1)).getD j []).length ≤ 40) := Lib.hid (fun j hj => by have := HRF2.out j hj; exact ⟨this.1, this.2.1⟩)
      have HBZ : Hid (r = 0 → Pl.br l (k + 1) = Pl.br l k) := Lib.hid (fun h0 => funext fun j => by rw [HBR.out, if_neg (by omega)])
      have HBP : Hid (∀ r', r = r' + 1 → Pl.br l (k + 1) = fun j => if j = x then some (Pl.lst ((Pl.gr l (k + 1)).getD r' [])) else Pl.br l k j) := Lib.hid (fun r' h0 => funext fun j => by
        rw [HBR.out, h0, show r' + 1 - 1 = r' from by omega]
        by_cases e : j = x
        · rw [if_pos ⟨Nat.succ_pos _, e⟩, if_pos e]
        · rw [if_neg (fun h => e h.2), if_neg e])
      have HGD : Hid (∀ j, j ≠ r → (Pl.gr l (k + 1)).getD j [] = rows.getD j []) := Lib.hid (fun j hj => by rw [HPUT.out, Pl.put_get (by rw [HMl.out]; exact hr1), if_neg hj])
      have HGL : Hid (r < (Pl.gr l (k + 1)).length) := Lib.hid (by rw [HPUT.out, Pl.put_len, HMl.out]; split <;> omega)
      by_cases hrm : r < m
      · have hne : ((r : Int) == (m : Int)) = false := by simp; omega
        obtain ⟨g, cap, hvv⟩ : ∃ g cap, (Value.slice AR m cR) = .slice (some ⟨g, 0, none⟩) m cap := by
          rcases hR3.own.2 with ⟨_, hz⟩ | ⟨g, cap, cur, hv3, _⟩
          · rw [HMl.out] at hz; omega
          · cases hv3; exact ⟨g, _, rfl⟩
        cases hvv
        have HR4 := Lib.hid hR3
        have HS4 := Lib.hid hS3
        have HM4 := Lib.hid hM3
        have HB4 := Lib.hid hB3
        have hr4 : r < m := hrm
        have HPUT4 : Hid (rows.set r (rows.getD r [] ++ [x]) = Pl.put rows r x) := Lib.hid (Pl.put_lt (by rw [HMl.out]; exact hrm))
        have hq3 := hR3.cell hrm
        have hlen4 : (rows.getD r []).length ≤ 40 := (HRF1.out r (by rw [HMl.out]; exact hrm)).2.1
        have hrI : (r : Int) < (m : Int) := by omega
        have HOW := Lib.hid ((hR3.row r (by rw [HMl.out]; exact hrm)).alloc (.cells (irc x).toArray 3))
        have HRA := Lib.hid (hR3.below ((Below.refl _ _).alloc (Nat.le_refl _) (.cells (irc x).toArray 3)))
        have HMLA := HMl
        clear hR3 hM3 hB3
        obtain ⟨fr, hfr⟩ : ∃ fr, f r = fr := ⟨_, rfl⟩
        have HFR := Lib.hid hfr
        rw [hfr] at hq3 HOW
        obtain ⟨zl, hzl⟩ : ∃ z, (rows.getD r []).length = z := ⟨_, rfl⟩
        have HZL1 := Lib.hid hzl
        rw [hzl] at hlen4 HOW
        clear hzl
        by_cases hr0 : 0 < r
        rotate_left
        · obtain rfl : r = 0 := by omega
          go_wp2_with (at_builtin; refine wpList_append_at rfl _ _ 32 rfl w2.heap.size 3 i3 _ 1 8 Tryz.underlying32 hi3 hz3 hn3 hy3 rfl (by decide) fr _ _ rfl HOW.out ⟨w3.heap.size, 0, none⟩ 1 1 (irc x) rfl rfl (new_cells' _ _ _ rfl) (encIr.one x) (by unfold maxLen; omega) (by omega) (by have := HS4.out.size; simp; omega) ?_; intro v9 w9 hown9 hgrow9 hloc9; obtain ⟨g9, c9, rfl⟩ := own_pos hown9; obtain ⟨hq9', hf9⟩ := HRA.out.at9 hr4 (W1 := w9) (by rw [HFR.out]; exact hgrow9); have hq9 : w9.cell? _ = some fr := hq9'.trans (congrArg some HFR.out); clear hq9')
          obtain ⟨hR5, hB5'⟩ := Rws.grow HRA.out HMl.out hr4 (u := .slice (some ⟨g9, 0, none⟩) (zl + 1) c9) (x := x) (by rw [HZL1.out]; exact hown9) (by rw [HFR.out]; exact hgrow9) (by rw [HFR.out]; exact hloc9)
          have HBB4 : Hid (Below w2.heap.size w3 w3) := Lib.hid (Below.refl _ _)
          have hBA := HBB4.out.trans (((Below.refl w2.heap.size w3).alloc HS4.out.size (.cells (irc x).toArray 3)).trans hB5')
          have hS5 := hS3.below hBA
          have hM5 := HM4.out.belowB hBA hmw
          have hB5 := HB4.out.trans (hBA.mono (by omega))
          rw [HPUT4.out, ← HPUT.out] at hR5
          go_roundw
          case rel => exact ⟨k + 1, _, by omega, by go_num, hR5, by rw [HBZ.out (by simp)]; exact hM5.mono (Nat.le_succ k), hS5, hB5⟩
          case measure => simp [intOf]; omega
        · obtain ⟨r', rfl⟩ : ∃ r', r = r' + 1 := ⟨r - 1, by omega⟩
          have hr0I : (0 : Int) < ((r' + 1 : Nat) : Int) := by omega
          have k1 : IntKind.i64.wrap (((r' + 1 : Nat) : Int) - 1) = (r' : Int) := by rw [show ((r' + 1 : Nat) : Int) - 1 = (r' : Int) from by omega]; exact IntWalk.i64_in _ (by omega)
          have k2 : ((r' + 1 : Nat) : Int) - 1 = (r' : Int) := by omega
          have hne8 : ¬ r' = r' + 1 := by omega
          have HROW8 := Lib.hid (HGD.out r' (by omega))
          obtain ⟨p1, p2⟩ := HPO.out r' (by have := HGL.out; omega)
          have hr8I : (r' : Int) < (m : Int) := by omega
          obtain ⟨A8, c8, hv8, _⟩ := rows_of_owns encIr (HR4.out.row r' (by rw [HMl.out]; omega))
          rw [← HROW8.out] at hv8
          have HV8 := Lib.hid hv8
          clear hv8
          obtain ⟨row8, hrow8⟩ : ∃ y, (Pl.gr l (k + 1)).getD r' [] = y := ⟨_, rfl⟩
          have HR8 := Lib.hid hrow8
          rw [hrow8] at p1 p2 HV8
          clear hrow8
          obtain ⟨z8, hz8⟩ : ∃ z, row8.length = z := ⟨_, rfl⟩
          have HZ8 := Lib.hid hz8
          rw [hz8] at p1 p2 HV8
          clear hz8
          go_wp2_with (at_builtin; refine wpList_append_at rfl _ _ 32 rfl w2.heap.size 3 i3 _ 1 8 Tryz.underlying32 hi3 hz3 hn3 hy3 rfl (by decide) fr _ _ rfl HOW.out ⟨w3.heap.size, 0, none⟩ 1 1 (irc x) rfl rfl (new_cells' _ _ _ rfl) (encIr.one x) (by unfold maxLen; omega) (by omega) (by have := HS4.out.size; simp; omega) ?_; intro v9 w9 hown9 hgrow9 hloc9; obtain ⟨g9, c9, rfl⟩ := own_pos hown9; obtain ⟨hq9', hf9⟩ := HRA.out.at9 hr4 (W1 := w9) (by rw [HFR.out]; exact hgrow9); have hq9 : w9.cell? _ = some fr := hq9'.trans (congrArg some HFR.out); clear hq9'; have hq8 : w9.cell? ⟨g, r', none⟩ = some (.slice A8 z8 c8) := (HRA.out.atq (s := r') hr4 (by omega) (W1 := w9) (by rw [HFR.out]; exact hgrow9)).trans (congrArg some HV8.out))
          obtain ⟨hR5, hB5'⟩ := Rws.grow HRA.out HMl.out hr4 (u := .slice (some ⟨g9, 0, none⟩) (zl + 1) c9) (x := x) (by rw [HZL1.out]; exact hown9) (by rw [HFR.out]; exact hgrow9) (by rw [HFR.out]; exact hloc9)
          have HBB4 : Hid (Below w2.heap.size w3 w3) := Lib.hid (Below.refl _ _)
          have hBA := HBB4.out.trans (((Below.refl w2.heap.size w3).alloc HS4.out.size (.cells (irc x).toArray 3)).trans hB5')
          have hS5 := hS3.below hBA
          have hM5 := HM4.out.belowB hBA hmw
          have hB5 := HB4.out.trans (hBA.mono (by omega))
          rw [HPUT4.out, ← HPUT.out] at hR5
          have hR8 : Rows irc 1 _ A8 row8 := (own_rows encIr (by have := hR5.row r' (by have := HGL.out; omega); rw [HR8.out] at this; simp only [if_neg hne8] at this; rw [HV8.out] at this; exact this)).1
          refine (lastOf_b A8 row8 c8 z8 HZ8.out p1 p2 _ hR8).mono ?_
          rintro e w10 ⟨rfl, hw10⟩
          rw [hw10]
          clear hw10
          obtain ⟨w11, hrun, hM6, hg6⟩ := hM5.store (by unfold maxLen; omega) (i := x) (Pl.lst row8) (by omega)
          have hR6 := hR5.keptLow hg6 hmw
          have hS6 := hS5.grown hg6
          have hB6 := hB5.grown hg6 hB5.size (fun s e => by cases e; exact Nat.le_refl _)
          have HBP2 := Lib.hid (HBP.out r' rfl)
          rw [HR8.out] at HBP2
          clear hR5 hM5 hS5 hB5 hBA hB5' hg6 hR8
          go_wp2_with fail
          go_roundw
          case rel => exact ⟨k + 1, _, by omega, by go_num, hR6, by rw [HBP2.out]; exact hM6, hS6, hB6⟩
          case measure => simp [intOf]; omega
      · obtain rfl : r = m := by omega
        have HOU := Lib.hid (hR3.own.alloc (.cells #[.slice none 0 0] 32))
        rw [HMl.out] at HOU
        have HR30 := Lib.hid hR3
        have HPS := Lib.hid (fun v' W4 ho hg hl => push_open (v' := v') (W4 := W4) (hR3.below ((Below.refl _ _).alloc (Nat.le_refl _) (.cells #[.slice none 0 0] 32))) HMl.out ho hg hl)
        have hrI : (r : Int) < ((r + 1 : Nat) : Int) := by omega
        have hr4 : r < r + 1 := Nat.lt_succ_self r
        have HBK3 := Lib.hid hR3.own.lt
        clear hR3
        have HML4 : Hid ((rows ++ [[]]).length = r + 1) := Lib.hid (by simp [HMl.out])
        have HPUT4 : Hid ((rows ++ [[]]).set r ((rows ++ [[]]).getD r [] ++ [x]) = Pl.put rows r x) := Lib.hid (by have := Pl.put_new (rows := rows) (i := x); rwa [HMl.out] at this)
        have HZL : Hid ((rows ++ [[]]).getD r [] = []) := Lib.hid (by rw [← HMl.out]; simp)
        by_cases hr0 : 0 < r
        rotate_left
        · obtain rfl : r = 0 := by omega
          go_wp2_with (first | (at_builtin; refine wpList_append_at rfl _ _ 29 rfl w2.heap.size 32 i42 _ 1 24 Tryz.underlying29 hi42 hz42 hn42 hy42 rfl (by decide) _ _ _ rfl HOU.out ⟨w3.heap.size, 0, none⟩ 1 1 [.slice none 0 0] rfl rfl (new_cells' _ _ _ rfl) (by simp [Value.oneCell']) (by unfold maxLen; omega) (by omega) (by have := hS3.size; simp; omega) ?_; intro v4 w4 hown4 hgrow4 hloc4; obtain ⟨g, cap, hv4, _, hR4⟩ := HPS.out v4 w4 hown4 hgrow4 hloc4; subst hv4; clear hloc4 hown4; have hq4 : w4.cell? ⟨g, 0, none⟩ = some (.slice none 0 0) := (hR4.cell hr4).trans (by simp); have HR4 := Lib.hid hR4; have HS4 : Hid (Sv w2.heap.size w.heap.size w2 w4) := Lib.hid (hS3.below (((Below.refl w2.heap.size w3).alloc hS3.size (.cells #[.slice none 0 0] 32)).grown hgrow4 (by have := hS3.size; simp; omega) (fun s e => (HBK3.out s e).1))); have HBB4 : Hid (Below w2.heap.size w3 w4) := Lib.hid (((Below.refl w2.heap.size w3).alloc hS3.size (.cells #[.slice none 0 0] 32)).grown hgrow4 (by have := hS3.size; simp; omega) (fun s e => (HBK3.out s e).1)); clear hR4 hgrow4) | (at_builtin; refine wpList_append_at rfl _ _ 32 rfl w2.heap.size 3 i3 _ 1 8 Tryz.underlying32 hi3 hz3 hn3 hy3 rfl (by decide) (.slice none 0 0) 0 [] rfl (World.ownsRow_nil _ _ _ _) ⟨w4.heap.size, 0, none⟩ 1 1 (irc x) rfl rfl (new_cells' _ _ _ rfl) (encIr.one x) (by unfold maxLen; omega) (by omega) (by have := HS4.out.size; simp; omega) ?_; intro v9 w9 hown9 hgrow9 hloc9; obtain ⟨g9, c9, rfl⟩ := own_pos hown9; obtain ⟨hq9', hf9⟩ := (HR4.out.below ((Below.refl _ _).alloc (Nat.le_refl _) (.cells (irc x).toArray 3))).at9 hr4 (W1 := w9) (by simpa using hgrow9); have hq9 : w9.cell? _ = some (.slice none 0 0) := hq9'.trans (by simp); clear hq9'))
          obtain ⟨hR5, hB5'⟩ := Rws.grow (HR4.out.below ((Below.refl _ _).alloc (Nat.le_refl _) (.cells (irc x).toArray 3))) HML4.out hr4 (u := .slice (some ⟨g9, 0, none⟩) 1 c9) (x := x) (by rw [HZL.out]; exact hown9) (by simpa using hgrow9) (by simpa using hloc9)
          have hBA := HBB4.out.trans (((Below.refl w2.heap.size w4).alloc HS4.out.size (.cells (irc x).toArray 3)).trans hB5')
          have hS5 := hS3.below hBA
          have hM5 := hM3.belowB hBA hmw
          have hB5 := hB3.trans (hBA.mono (by omega))
          rw [HPUT4.out, ← HPUT.out] at hR5
          go_roundw
          case rel => exact ⟨k + 1, _, by omega, by go_num, hR5, by rw [HBZ.out (by simp)]; exact hM5.mono (Nat.le_succ k), hS5, hB5⟩
          case measure => simp [intOf]; omega
        · obtain ⟨r', rfl⟩ : ∃ r', r = r' + 1 := ⟨r - 1, by omega⟩
          have hr0I : (0 : Int) < ((r' + 1 : Nat) : Int) := by omega
          have k1 : IntKind.i64.wrap (((r' + 1 : Nat) : Int) - 1) = (r' : Int) := by rw [show ((r' + 1 : Nat) : Int) - 1 = (r' : Int) from by omega]; exact IntWalk.i64_in _ (by omega)
          have k2 : ((r' + 1 : Nat) : Int) - 1 = (r' : Int) := by omega
          have hne8 : ¬ r' = r' + 1 := by omega
          have HROW8 := Lib.hid (HGD.out r' (by omega))
          obtain ⟨p1, p2⟩ := HPO.out r' (by have := HGL.out; omega)
          have hr8I : (r' : Int) < ((r' + 1 + 1 : Nat) : Int) := by omega
          obtain ⟨A8, c8, hv8, _⟩ := rows_of_owns encIr (HR30.out.row r' (by rw [HMl.out]; omega))
          rw [← HROW8.out] at hv8
          have HV8 := Lib.hid hv8
          clear hv8
          obtain ⟨row8, hrow8⟩ : ∃ y, (Pl.gr l (k + 1)).getD r' [] = y := ⟨_, rfl⟩
          have HR8 := Lib.hid hrow8
          rw [hrow8] at p1 p2 HV8
          clear hrow8
          obtain ⟨z8, hz8⟩ : ∃ z, row8.length = z := ⟨_, rfl⟩
          have HZ8 := Lib.hid hz8
          rw [hz8] at p1 p2 HV8
          clear hz8
          go_wp2_with (first | (at_builtin; refine wpList_append_at rfl _ _ 29 rfl w2.heap.size 32 i42 _ 1 24 Tryz.underlying29 hi42 hz42 hn42 hy42 rfl (by decide) _ _ _ rfl HOU.out ⟨w3.heap.size, 0, none⟩ 1 1 [.slice none 0 0] rfl rfl (new_cells' _ _ _ rfl) (by simp [Value.oneCell']) (by unfold maxLen; omega) (by omega) (by have := hS3.size; simp; omega) ?_; intro v4 w4 hown4 hgrow4 hloc4; obtain ⟨g, cap, hv4, _, hR4⟩ := HPS.out v4 w4 hown4 hgrow4 hloc4; subst hv4; clear hloc4 hown4; have hq4 : w4.cell? ⟨g, r' + 1, none⟩ = some (.slice none 0 0) := (hR4.cell hr4).trans (by simp); have HR4 := Lib.hid hR4; have HS4 : Hid (Sv w2.heap.size w.heap.size w2 w4) := Lib.hid (hS3.below (((Below.refl w2.heap.size w3).alloc hS3.size (.cells #[.slice none 0 0] 32)).grown hgrow4 (by have := hS3.size; simp; omega) (fun s e => (HBK3.out s e).1))); have HBB4 : Hid (Below w2.heap.size w3 w4) := Lib.hid (((Below.refl w2.heap.size w3).alloc hS3.size (.cells #[.slice none 0 0] 32)).grown hgrow4 (by have := hS3.size; simp; omega) (fun s e => (HBK3.out s e).1)); clear hR4 hgrow4) | (at_builtin; refine wpList_append_at rfl _ _ 32 rfl w2.heap.size 3 i3 _ 1 8 Tryz.underlying32 hi3 hz3 hn3 hy3 rfl (by decide) (.slice none 0 0) 0 [] rfl (World.ownsRow_nil _ _ _ _) ⟨w4.heap.size, 0, none⟩ 1 1 (irc x) rfl rfl (new_cells' _ _ _ rfl) (encIr.one x) (by unfold maxLen; omega) (by omega) (by have := HS4.out.size; simp; omega) ?_; intro v9 w9 hown9 hgrow9 hloc9; obtain ⟨g9, c9, rfl⟩ := own_pos hown9; obtain ⟨hq9', hf9⟩ := (HR4.out.below ((Below.refl _ _).alloc (Nat.le_refl _) (.cells (irc x).toArray 3))).at9 hr4 (W1 := w9) (by simpa using hgrow9); have hq9 : w9.cell? _ = some (.slice none 0 0) := hq9'.trans (by simp); clear hq9'; have hq8 : w9.cell? ⟨g, r', none⟩ = some (.slice A8 z8 c8) := ((HR4.out.below ((Below.refl _ _).alloc (Nat.le_refl _) (.cells (irc x).toArray 3))).atq (s := r') hr4 (by omega) (W1 := w9) (by simpa using hgrow9)).trans (by rw [← HV8.out]; simp)))
          obtain ⟨hR5, hB5'⟩ := Rws.grow (HR4.out.below ((Below.refl _ _).alloc (Nat.le_refl _) (.cells (irc x).toArray 3))) HML4.out hr4 (u := .slice (some ⟨g9, 0, none⟩) 1 c9) (x := x) (by rw [HZL.out]; exact hown9) (by simpa using hgrow9) (by simpa using hloc9)
          have hBA := HBB4.out.trans (((Below.refl w2.heap.size w4).alloc HS4.out.size (.cells (irc x).toArray 3)).trans hB5')
          have hS5 := hS3.below hBA
          have hM5 := hM3.belowB hBA hmw
          have hB5 := hB3.trans (hBA.mono (by omega))
          rw [HPUT4.out, ← HPUT.out] at hR5
          have hR8 : Rows irc 1 _ A8 row8 := (own_rows encIr (by have := hR5.row r' (by have := HGL.out; omega); rw [HR8.out] at this; simp only [if_neg hne8] at this; rw [HV8.out] at this; exact this)).1
          refine (lastOf_b A8 row8 c8 z8 HZ8.out p1 p2 _ hR8).mono ?_
          rintro e w10 ⟨rfl, hw10⟩
          rw [hw10]
          clear hw10
          obtain ⟨w11, hrun, hM6, hg6⟩ := hM5.store (by unfold maxLen; omega) (i := x) (Pl.lst row8) (by omega)
          have hR6 := hR5.keptLow hg6 hmw
          have hS6 := hS5.grown hg6
          have hB6 := hB5.grown hg6 hB5.size (fun s e => by cases e; exact Nat.le_refl _)
          have HBP2 := Lib.hid (HBP.out r' rfl)
          rw [HR8.out] at HBP2
          clear hR5 hM5 hS5 hB5 hBA hB5' hg6 hR8
          go_wp2_with fail
          go_roundw
          case rel => exact ⟨k + 1, _, by omega, by go_num, hR6, by rw [HBP2.out]; exact hM6, hS6, hB6⟩
          case measure => simp [intOf]; omega
    · obtain rfl : k = n := by omega
      go_wp2
      go_ret2
      exact ⟨_, _, f, rfl, by rw [HRR.out]; exact hR.mono (by omega), hM, hB⟩
end Go.Proofs.YtlfbfdhdkccaeaaGreat

