/- matchColour. -/
import Derived.Test.YtmjnlmmjfbpogaaV5
namespace Go.Proofs.Ytmjnlmmjfbpogaa
open Go.RowKit Go.Shelf Go.Sort Go.Lib

/-- the cells of a pair -/
abbrev prL (i j : Nat) : List Value := [.int .i64 i, .int .i64 j]
abbrev prc (p : Nat × Nat) : List Value := prL p.1 p.2
theorem encPr : Enc prc 2 where
  pos := by decide
  len _ := rfl
  one x v hv := by simp [prc, prL] at hv; rcases hv with rfl | rfl <;> rfl
theorem prL_one (i j : Nat) : ∀ v ∈ prL i j, v.oneCell' = true := by
  intro v hv
  simp [prL] at hv; rcases hv with rfl | rfl <;> rfl
theorem info51 : (Try.prog.info? 51).map (fun i => (i.zero, i.size, i.bytes)) = some (some (.agg #[.int .i64 0, .int .i64 0]), 2, 16) := by kernel_rfl
def lenV : Value → Nat
  | .slice _ n _ => n
  | _ => 0
/-- a slice of temples with their places -/
def Pcs (l : List Pl.Tm) (w : World) (v : Value) (p : List Nat) : Prop := ∃ A c, v = .slice A p.length c ∧ p.length ≤ c ∧ c ≤ maxLen ∧ Rows (pc l) 5 w A p
theorem Pcs.below {l : List Pl.Tm} {w w' : World} {v : Value} {p : List Nat} (h : Pcs l w v p) (hb : Below w.heap.size w w') : Pcs l w' v p := by
  obtain ⟨A, c, h1, h2, h3, h4⟩ := h
  exact ⟨A, c, h1, h2, h3, h4.below hb⟩
theorem Pcs.tail {l : List Pl.Tm} {w : World} {b o c i : Nat} {p : List Nat} (h : Rows (pc l) 5 w (some ⟨b, o + 5, none⟩) p) (hc : (i :: p).length ≤ c) (hc' : c ≤ maxLen) :
    Pcs l w (.slice (if c = 1 then some ⟨b, o, none⟩ else some ⟨b, o + 5, none⟩) p.length (c - 1)) p := by
  have hl : p.length + 1 ≤ c := hc
  refine ⟨_, _, rfl, by omega, by omega, ?_⟩
  by_cases e : c = 1
  · have : p = [] := List.eq_nil_of_length_eq_zero (by omega)
    subst this
    exact Rows.nil _ _
  · rw [if_neg e]; exact h
theorem mc_nil {l : List Pl.Tm} {tol : Int} {q : List Nat} : Pl.mc l tol [] q = [] := by rw [Pl.mc]
theorem mc_nil2 {l : List Pl.Tm} {tol : Int} {p : List Nat} : Pl.mc l tol p [] = [] := by cases p <;> rw [Pl.mc]
theorem mc_yes {l : List Pl.Tm} {tol : Int} {i j : Nat} {p q : List Nat} (h : Pl.can (Pl.at' l i) (Pl.at' l j) tol = true) : Pl.mc l tol (i :: p) (j :: q) = (i, j) :: Pl.mc l tol p q := by rw [Pl.mc, if_pos h]
theorem mc_left {l : List Pl.Tm} {tol : Int} {i j : Nat} {p q : List Nat} (h : Pl.can (Pl.at' l i) (Pl.at' l j) tol = false) (h2 : (Pl.at' l i).len < (Pl.at' l j).len) : Pl.mc l tol (i :: p) (j :: q) = Pl.mc l tol p (j :: q) := by rw [Pl.mc, if_neg (by rw [h]; simp), if_pos h2]
theorem mc_right {l : List Pl.Tm} {tol : Int} {i j : Nat} {p q : List Nat} (h : Pl.can (Pl.at' l i) (Pl.at' l j) tol = false) (h2 : ¬ (Pl.at' l i).len < (Pl.at' l j).len) : Pl.mc l tol (i :: p) (j :: q) = Pl.mc l tol (i :: p) q := by rw [Pl.mc, if_neg (by rw [h]; simp), if_neg h2]
theorem Below.drewN {B : Nat} {w w' : World} (h : Below B w w') {n : Nat} : Below B w (w'.drewN n) := ⟨h.os, h.tape, h.output, h.size, h.block⟩
theorem ownDrewN {w : World} {B : Nat} {t : TypeId} {k : Nat} {v : Value} {n m : Nat} {xs : List Value} (h : w.ownsRow B t k v n xs) : (w.drewN m).ownsRow B t k v n xs := h
structure Mst (l : List Pl.Tm) (tol : Int) (w : World) (n m : Nat) (M : List (Nat × Nat)) (vl vr vp : Value) (wr : World) (p q : List Nat) (out : List (Nat × Nat)) : Prop where
  pl : p.length ≤ n
  ql : q.length ≤ m
  ol : out.length + p.length ≤ n
  vt : ∀ i, i ∈ p ∨ i ∈ q → Pl.Vt (Pl.at' l i)
  L : Pcs l w vl p
  R : Pcs l w vr q
  own : wr.ownsRow w.heap.size 51 2 vp out.length (flt prc out)
  eq : out ++ Pl.mc l tol p q = M
  B : Below w.heap.size w wr

theorem pc_cells {W : World} {b o : Nat} {t : Pl.Tm} {i : Nat} (h : W.rangeAt b o (pcL t i)) : W.cell? ⟨b, o, none⟩ = some (.int .i64 t.num) ∧ W.cell? ⟨b, o + 1, none⟩ = some (.int .i64 t.side) ∧ W.cell? ⟨b, o + 2, none⟩ = some (.int .i64 t.len) ∧
    W.cell? ⟨b, o + 3, none⟩ = some (.int .i64 t.col) ∧ W.cell? ⟨b, o + 4, none⟩ = some (.int .i64 i) := ⟨h 0 _ rfl, h 1 _ rfl, h 2 _ rfl, h 3 _ rfl, h 4 _ rfl⟩
theorem pc_tm {W : World} {b o : Nat} {t : Pl.Tm} {i : Nat} (h : W.rangeAt b o (pcL t i)) : W.rangeAt b o (tmA t).toList := fun j v hj => by
  match j, hj with
  | 0, hj => exact h 0 _ hj
  | 1, hj => exact h 1 _ hj
  | 2, hj => exact h 2 _ hj
  | 3, hj => exact h 3 _ hj
theorem pc_all (t : Pl.Tm) (i : Nat) : (pcL t i).toArray.all (·.oneCell') = true := by
  rw [Array.all_eq_true_iff_forall_mem]
  intro v hv
  exact pcL_one t i v (by simpa using hv)
theorem setRow_same {w : World} {g : Nat} {t : TypeId} {old cs : Array Value} (h : Blk w g t old) : Blk (w.setRow g cs) g t cs := setRow_heap w g old cs t (0, 0) h
abbrev zp : Array Value := #[.int .i64 0, .int .i64 0, .int .i64 0, .int .i64 0, .int .i64 0]

set_option maxRecDepth 100000 in
set_option maxHeartbeats 4000000 in
theorem matchcolour_any (l : List Pl.Tm) (tol : Int) (ht : 0 ≤ tol ∧ tol ≤ 1000) (vl vr : Value) (p q : List Nat) (hp : p.length ≤ 60) (_hq : q.length ≤ 60) (hv : ∀ i, i ∈ p ∨ i ∈ q → Pl.Vt (Pl.at' l i)) (w : World) (hL : Pcs l w vl p) (hR : Pcs l w vr q) :
    Calls Try.prog 75 #[vl, vr, .int .i64 tol] w fun e w' => ∃ v, e = .returned v ∧ w'.ownsRow w.heap.size 51 2 v (Pl.mc l tol p q).length (flt prc (Pl.mc l tol p q)) ∧ Below w.heap.size w w' := by
  obtain ⟨M, hM⟩ : ∃ M, Pl.mc l tol p q = M := ⟨_, rfl⟩
  rw [hM]
  have h0 : Hid (Mst l tol w p.length q.length M vl vr (.slice none 0 0) w p q []) := Lib.hid ⟨Nat.le_refl _, Nat.le_refl _, by simp, hv, hL, hR, World.ownsRow_nil _ _ _ _, by simpa using hM, Below.refl _ _⟩
  obtain ⟨i0, hi, hz0, hz1, hz2⟩ := info_parts info51
  have k2 : IntKind.i64.wrap (-tol) = -tol := IntWalk.i64_in _ (by omega)
  have HK2 := Lib.hid k2
  obtain ⟨A1, c1, rfl, _⟩ := hL
  obtain ⟨A2, c2, rfl, _⟩ := hR
  generalize hpn : p.length = n at *
  generalize hqm : q.length = m at *
  have H0 : Hid (∃ p q out, Mst l tol w n m M (.slice A1 n c1) (.slice A2 m c2) (.slice none 0 0) w p q out) := Lib.hid ⟨p, q, [], h0.out⟩
  clear hM hv k2 h0 hpn hqm
  go_enter Try.func75, Try.ntmps75
  go_wp2
  go_loopw [0, 1, 7, 8, 9] (fun vl vr vp _ _ wr => ∃ p q out, Mst l tol w n m M vl vr vp wr p q out) (fun vl vr _ _ _ _ => lenV vl + lenV vr)
  case atStart => exact H0.out
  case round =>
    clear H0
    obtain ⟨p, q, out, hS⟩ := hrel
    obtain ⟨wo, rfl⟩ : ∃ wo, wo = wr := ⟨_, rfl⟩
    obtain ⟨A1, c1, rfl, hc1, hc1', hr1⟩ := hS.L
    obtain ⟨A2, c2, rfl, hc2, hc2', hr2⟩ := hS.R
    have hown := hS.own
    have hB := hS.B
    have HE := Lib.hid hS.eq
    have HS := Lib.hid hS
    clear hS
    cases p with
    | nil =>
      rw [mc_nil, List.append_nil] at HE
      go_wp2
      go_ret
      exact ⟨_, rfl, by rw [← HE.out]; exact hown, hB⟩
    | cons i p =>
      cases q with
      | nil =>
        rw [mc_nil2, List.append_nil] at HE
        have hpos : (0 : Int) < ((i :: p).length : Int) := by simp
        go_wp2
        go_ret
        exact ⟨_, rfl, by rw [← HE.out]; exact hown, hB⟩
      | cons j q =>
        have hpos : (0 : Int) < ((i :: p).length : Int) := by simp
        have hpos2 : (0 : Int) < ((j :: q).length : Int) := by simp
        obtain ⟨b1, o1, rfl, hb1, hq1⟩ := hr1.open (by simp)
        obtain ⟨b2, o2, rfl, hb2, hq2⟩ := hr2.open (by simp)
        have HT1 := Lib.hid hr1.tail
        have HT2 := Lib.hid hr2.tail
        have g1 : w.rangeAt b1 o1 (pcL (Pl.at' l i) i) := by have := hq1 0 (by simp); rw [Nat.zero_mul, Nat.add_zero] at this; exact this
        have g2 : w.rangeAt b2 o2 (pcL (Pl.at' l j) j) := by have := hq2 0 (by simp); rw [Nat.zero_mul, Nat.add_zero] at this; exact this
        replace g1 := rangeAt_below g1 hb1 hB
        replace g2 := rangeAt_below g2 hb2 hB
        have hb1' := Nat.lt_of_lt_of_le hb1 hB.size
        have hb2' := Nat.lt_of_lt_of_le hb2 hB.size
        have HP1 := Lib.hid hpos
        have HP2 := Lib.hid hpos2
        clear hq1 hq2 hr1 hr2
        have HVI := Lib.hid (HS.out.vt i (.inl (by simp)))
        have HVJ := Lib.hid (HS.out.vt j (.inr (by simp)))
        go_wp2
        refine Code.wp_mono (Q := fun e' a' w' => e' = .normal ∧ ∃ y18 y19 y20 y21 y22 y23 b8 b9, a' = { tmps := #[.slice (some ⟨b1, o1, none⟩) (i :: p).length c1, .slice (some ⟨b2, o2, none⟩) (j :: q).length c2, .int .i64 tol, undef, undef, undef, .slice none 0 0, u7, .pointer (some ⟨b8, 0, none⟩), .pointer (some ⟨b9, 0, none⟩), .slice (some ⟨b1, o1, none⟩) (i :: p).length c1, .int .i64 (p.length + 1), .bool true, .bool true, .slice (some ⟨b2, o2, none⟩) (j :: q).length c2, .int .i64 (q.length + 1), .bool true, .bool true, y18, y19, y20, y21, y22, y23, u24, u25, u26, u27, u28, u29, u30, u31, u32, u33, u34, u35, u36, u37, u38, u39, u40, u41, u42, u43, u44, u45, u46, u47, u48, u49, u50, u51, u52, u53, u54, undef], defers := [] } ∧ Blk w' b8 94 (pcL (Pl.at' l i) i).toArray ∧ Blk w' b9 94 (pcL (Pl.at' l j) j).toArray ∧ Below wo.heap.size wo w' ∧ wo.heap.size ≤ b8 ∧ wo.heap.size ≤ b9) ?goon ?region
        case goon =>
          rintro _ _ w3 ⟨rfl, y18, y19, y20, y21, y22, y23, b8, b9, rfl, k8, k9, hB3, hn8, hn9⟩
          have hown3 := own_keep hown hB3
          have hB4 := hB.trans (hB3.mono hB.size)
          have r8 := pc_tm k8.range
          have r9 := pc_tm k9.range
          clear hown hB g1 g2 hb1' hb2' hpos hpos2
          have hvi := HVI.out
          have hvj := HVJ.out
          have k1 : IntKind.i64.wrap ((Pl.at' l i).len - (Pl.at' l j).len) = (Pl.at' l i).len - (Pl.at' l j).len := IntWalk.i64_in _ (by have := hvi.l1; have := hvi.l2; have := hvj.l1; have := hvj.l2; omega)
          have HK1 := Lib.hid k1
          obtain ⟨v, hv⟩ : ∃ v, Pl.can (Pl.at' l i) (Pl.at' l j) tol = v := ⟨_, rfl⟩
          have HV := Lib.hid hv
          clear k1 hvi hvj hv
          go_wp2_with (first | refine ldm_tm r8 rfl _ rfl rfl ?_ | refine ldm_tm r9 rfl _ rfl rfl ?_)
          refine (canpair_b _ _ tol v HV.out HK1.out HK2.out _).mono ?_
          rintro e w4 ⟨rfl, hb4⟩
          have hown4 := own_keep hown3 hb4
          have hB5 := hB4.trans (hb4.mono hB4.size)
          have k8' := k8.below hb4 k8.lt
          have k9' := k9.below hb4 k9.lt
          clear hown3 hB4 hb4 k8 k9 r8 r9 hB3
          obtain ⟨p8, p9⟩ : (i :: p).length = p.length + 1 ∧ (j :: q).length = q.length + 1 := ⟨rfl, rfl⟩
          have l1 : (1 : Int) ≤ ((i :: p).length : Int) := by simp; omega
          have l2 : (1 : Int) ≤ ((j :: q).length : Int) := by simp; omega
          cases v with
          | true =>
            have c8 := k8'.cell 4
            have c9 := k9'.cell 4
            go_wp2_with (first | (at_builtin; refine wpList_append_own _ rfl _ _ 33 rfl w.heap.size 51 i0 _ 2 16 Try.underlying33 hi hz0 hz1 hz2 rfl (by decide) _ _ _ rfl (hown4.alloc _) ⟨w4.heap.size, 0, none⟩ 1 1 (prL i j) rfl rfl (new_cells _ _ _) (prL_one i j) (by have := HS.out.ol; simp at this; unfold maxLen; omega) (by have := HS.out.ol; simp at this; omega) (by have := hB5.size; simp; omega) ?_; intro v' w5 hown' hgrow _))
            have hB6 := (hB5.alloc hB5.size (.cells (prL i j).toArray 51)).grown hgrow (hB5.alloc hB5.size _).size (fun s e => (hown4.lt s e).1)
            have HO6 := Lib.hid hown'
            have HB6 := Lib.hid hB6
            clear hown' hgrow hown4 hB5 hB6 c8 c9 k8' k9' hi hz0 hz1 hz2
            go_quiet (fail)
            go_wp2_with fail
            go_roundw
            case rel =>
              refine ⟨p, q, out ++ [(i, j)], by have := HS.out.pl; simp at this; omega, by have := HS.out.ql; simp at this; omega, by have := HS.out.ol; simp at this ⊢; omega, fun x hx => HS.out.vt x (hx.imp (List.mem_cons_of_mem _) (List.mem_cons_of_mem _)),
                Pcs.tail HT1.out hc1 hc1', Pcs.tail HT2.out hc2 hc2', ?_, ?_, Below.drewN HB6.out⟩
              · rw [List.length_append, flt_append, flt_one]; exact ownDrewN HO6.out
              · rw [← HE.out, mc_yes HV.out, List.append_assoc]; rfl
            case measure => simp [lenV]; omega
          | false =>
            have c8 := k8'.cell 2
            have c9 := k9'.cell 2
            by_cases hlt : (Pl.at' l i).len < (Pl.at' l j).len
            · go_wp2_with fail
              go_roundw
              case rel =>
                exact ⟨p, j :: q, out, by have := HS.out.pl; simp at this; omega, HS.out.ql, by have := HS.out.ol; simp at this ⊢; omega, fun x hx => HS.out.vt x (hx.imp (List.mem_cons_of_mem _) id),
                  Pcs.tail HT1.out hc1 hc1', HS.out.R, hown4, by rw [← HE.out, mc_left HV.out hlt], hB5⟩
              case measure => simp [lenV]
            · go_wp2_with fail
              go_roundw
              case rel =>
                exact ⟨i :: p, q, out, HS.out.pl, by have := HS.out.ql; simp at this; omega, HS.out.ol, fun x hx => HS.out.vt x (hx.imp id (List.mem_cons_of_mem _)),
                  HS.out.L, Pcs.tail HT2.out hc2 hc2', hown4, by rw [← HE.out, mc_right HV.out (by omega)], hB5⟩
              case measure => simp [lenV]
        case region =>
          clear hpos hpos2
          have hpos : (0 : Int) < ((i :: p).length : Int) := HP1.out
          have hpos2 : (0 : Int) < ((j :: q).length : Int) := HP2.out
          have HB : Hid (Below wo.heap.size wo wo.drew) := Lib.hid (Below.refl _ _).drew
          clear HVI HVJ HT1 HT2 HS HE hown hB HP1 HP2 hi hz0 hz1 hz2 HK2
          refine wp_region_held (S := fun W => Below wo.heap.size wo W) (by kernel_rfl) ?_
          change wpAnyH _ _ _ _ _ _ _ _ (World.drew _)
          refine wpAnyH_take (i := 0) (v := ?_) rfl (by kernel_rfl) (by decide +kernel) (by decide +kernel) (fun _ _ _ h => by cases h.1) (Or.inl ⟨by rfl, ?_⟩) HB.out ?_
          rotate_left
          · intro w' _; first | (go_simp; done) | (go_simp; with_reducible rfl)
          refine wpAnyH_take (i := 1) (v := ?_) rfl (by kernel_rfl) (by decide +kernel) (by decide +kernel) (fun _ _ _ h => by cases h.1) (Or.inl ⟨by rfl, ?_⟩) HB.out ?_
          rotate_left
          · intro w' _; first | (go_simp; done) | (go_simp; with_reducible rfl)
          refine wpAnyH_take (i := 2) (v := ?_) rfl (by kernel_rfl) (by decide +kernel) (by decide +kernel) (fun _ _ _ h => by cases h.1) (Or.inl ⟨by rfl, ?_⟩) HB.out ?_
          rotate_left
          · intro w' hS; obtain ⟨q0, q1, q2, q3, q4⟩ := pc_cells (rangeAt_below g1 hb1' hS); first | (go_simp; done) | (go_simp; with_reducible rfl)
          refine wpAnyH_take (i := 3) (v := ?_) rfl (by kernel_rfl) (by decide +kernel) (by decide +kernel) (fun _ _ _ h => by cases h.1) (Or.inl ⟨by rfl, ?_⟩) HB.out ?_
          rotate_left
          · intro w' _; first | (go_simp; done) | (go_simp; with_reducible rfl)
          refine wpAnyH_take (i := 4) (v := ?_) rfl (by kernel_rfl) (by decide +kernel) (by decide +kernel) (fun _ _ _ h => by cases h.1) (Or.inl ⟨by rfl, ?_⟩) HB.out ?_
          rotate_left
          · intro w' _; first | (go_simp; done) | (go_simp; with_reducible rfl)
          refine wpAnyH_take (i := 5) (v := ?_) rfl (by kernel_rfl) (by decide +kernel) (by decide +kernel) (fun _ _ _ h => by cases h.1) (Or.inl ⟨by rfl, ?_⟩) HB.out ?_
          rotate_left
          · intro w' hS; obtain ⟨q0, q1, q2, q3, q4⟩ := pc_cells (rangeAt_below g2 hb2' hS); first | (go_simp; done) | (go_simp; with_reducible rfl)
          have hBA := HB.out.alloc (Nat.le_refl _) (.cells zp 94)
          have hBB : Below wo.heap.size wo ((wo.alloc (.cells zp 94)).alloc (.cells zp 94)).drew := hBA.alloc hBA.size (.cells zp 94)
          have bA : Blk ((wo.alloc (.cells zp 94)).alloc (.cells zp 94)).drew wo.heap.size 94 zp := ((Blk.new wo 94 zp).alloc _).drew
          have bB : Blk ((wo.alloc (.cells zp 94)).alloc (.cells zp 94)).drew (wo.heap.size + 1) 94 zp := by
            have := Blk.new (wo.alloc (.cells zp 94)) 94 zp
            simp only [World.size_alloc] at this
            exact this.drew
          have HBB := Lib.hid hBB
          have HbA := Lib.hid bA
          have HbB := Lib.hid bB
          clear hBB bA bB
          clear g1 g2
          refine wpAnyH_all (rs := [6, 7]) (by decide +kernel) (by simp) ?_
          intro i0 hi0
          simp only [List.mem_cons, List.not_mem_nil, or_false] at hi0
          rcases hi0 with rfl | rfl
          · refine wpOp_go rfl rfl (fun K hK => ?_)
            go_simp
            refine hK _ _ ⟨hBA, ?_⟩
            clear hK K
            refine wpAnyH_all (rs := [7]) (by decide +kernel) (by simp) ?_
            intro i0 hi0
            obtain rfl := List.mem_singleton.1 hi0
            refine wpOp_go rfl rfl (fun K hK => ?_)
            go_simp
            refine hK _ _ ⟨HBB.out, ?_⟩
            clear hK K
            have hBB := HBB.out
            have bX := HbA.out
            have bY := HbB.out
            generalize ((wo.alloc (.cells zp 94)).alloc (.cells zp 94)).drew = WB at *
            have hX : Only wo.heap.size WB (WB.setRow (wo.heap.size) (pcL (Pl.at' l i) i).toArray) := Only.setRow _ _ _
            have hY : Only (wo.heap.size + 1) (WB.setRow (wo.heap.size) (pcL (Pl.at' l i) i).toArray) ((WB.setRow (wo.heap.size) (pcL (Pl.at' l i) i).toArray).setRow (wo.heap.size + 1) (pcL (Pl.at' l j) j).toArray) := Only.setRow _ _ _
            have bY1 : Blk _ _ _ _ := (hX.block (wo.heap.size + 1) (by omega)).trans bY
            have bX1 : Blk (WB.setRow (wo.heap.size) (pcL (Pl.at' l i) i).toArray) (wo.heap.size) 94 (pcL (Pl.at' l i) i).toArray := setRow_same bX
            have bX2 : Blk _ _ _ _ := (hY.block (wo.heap.size) (by omega)).trans bX1
            have bY2 : Blk ((WB.setRow (wo.heap.size) (pcL (Pl.at' l i) i).toArray).setRow (wo.heap.size + 1) (pcL (Pl.at' l j) j).toArray) (wo.heap.size + 1) 94 (pcL (Pl.at' l j) j).toArray := setRow_same bY1
            have hB1 := hBB.trans (hX.below (by omega))
            have hB2 := hB1.trans (hY.below (by omega))
            refine wpAnyH_all (rs := [8]) (by decide +kernel) (by simp) ?_
            intro i0 hi0
            obtain rfl := List.mem_singleton.1 hi0
            refine wpOp_go rfl rfl (fun K hK => ?_)
            refine wp_store_row 94 (.tmp 8) (.tmp 20) rfl (wo.heap.size) (pcL (Pl.at' l i) i).toArray rfl rfl 94 zp bX info94' rfl (pc_all _ _) (hK _ _ ⟨hB1, ?_⟩)
            clear hK K
            refine wpAnyH_all (rs := [9]) (by decide +kernel) (by simp) ?_
            intro i0 hi0
            obtain rfl := List.mem_singleton.1 hi0
            refine wpOp_go rfl rfl (fun K hK => ?_)
            refine wp_store_row 94 (.tmp 9) (.tmp 23) rfl (wo.heap.size + 1) (pcL (Pl.at' l j) j).toArray rfl rfl 94 zp bY1 info94' rfl (pc_all _ _) (hK _ _ ⟨hB2, ?_⟩)
            clear hK K
            refine wpAnyH_done (by decide +kernel) ?_ _
            exact ⟨rfl, _, _, _, _, _, _, _, _, rfl, bX2, bY2, hB2, by omega, by omega⟩
          · refine wpOp_go rfl rfl (fun K hK => ?_)
            go_simp
            refine hK _ _ ⟨hBA, ?_⟩
            clear hK K
            refine wpAnyH_all (rs := [6]) (by decide +kernel) (by simp) ?_
            intro i0 hi0
            obtain rfl := List.mem_singleton.1 hi0
            refine wpOp_go rfl rfl (fun K hK => ?_)
            go_simp
            refine hK _ _ ⟨HBB.out, ?_⟩
            clear hK K
            have hBB := HBB.out
            have bX := HbB.out
            have bY := HbA.out
            generalize ((wo.alloc (.cells zp 94)).alloc (.cells zp 94)).drew = WB at *
            have hX : Only (wo.heap.size + 1) WB (WB.setRow (wo.heap.size + 1) (pcL (Pl.at' l i) i).toArray) := Only.setRow _ _ _
            have hY : Only wo.heap.size (WB.setRow (wo.heap.size + 1) (pcL (Pl.at' l i) i).toArray) ((WB.setRow (wo.heap.size + 1) (pcL (Pl.at' l i) i).toArray).setRow (wo.heap.size) (pcL (Pl.at' l j) j).toArray) := Only.setRow _ _ _
            have bY1 : Blk _ _ _ _ := (hX.block (wo.heap.size) (by omega)).trans bY
            have bX1 : Blk (WB.setRow (wo.heap.size + 1) (pcL (Pl.at' l i) i).toArray) (wo.heap.size + 1) 94 (pcL (Pl.at' l i) i).toArray := setRow_same bX
            have bX2 : Blk _ _ _ _ := (hY.block (wo.heap.size + 1) (by omega)).trans bX1
            have bY2 : Blk ((WB.setRow (wo.heap.size + 1) (pcL (Pl.at' l i) i).toArray).setRow (wo.heap.size) (pcL (Pl.at' l j) j).toArray) (wo.heap.size) 94 (pcL (Pl.at' l j) j).toArray := setRow_same bY1
            have hB1 := hBB.trans (hX.below (by omega))
            have hB2 := hB1.trans (hY.below (by omega))
            refine wpAnyH_all (rs := [8]) (by decide +kernel) (by simp) ?_
            intro i0 hi0
            obtain rfl := List.mem_singleton.1 hi0
            refine wpOp_go rfl rfl (fun K hK => ?_)
            refine wp_store_row 94 (.tmp 8) (.tmp 20) rfl (wo.heap.size + 1) (pcL (Pl.at' l i) i).toArray rfl rfl 94 zp bX info94' rfl (pc_all _ _) (hK _ _ ⟨hB1, ?_⟩)
            clear hK K
            refine wpAnyH_all (rs := [9]) (by decide +kernel) (by simp) ?_
            intro i0 hi0
            obtain rfl := List.mem_singleton.1 hi0
            refine wpOp_go rfl rfl (fun K hK => ?_)
            refine wp_store_row 94 (.tmp 9) (.tmp 23) rfl (wo.heap.size) (pcL (Pl.at' l j) j).toArray rfl rfl 94 zp bY1 info94' rfl (pc_all _ _) (hK _ _ ⟨hB2, ?_⟩)
            clear hK K
            refine wpAnyH_done (by decide +kernel) ?_ _
            exact ⟨rfl, _, _, _, _, _, _, _, _, rfl, bX2, bY2, hB2, by omega, by omega⟩
end Go.Proofs.Ytmjnlmmjfbpogaa
