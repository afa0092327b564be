/- Line, Invoice, of the program. -/
import Derived.Test.YtdihnbjmeppbcaaDoorWM
namespace Go.Proofs.YtdihnbjmeppbcaaDoor
open Go.RowKit Go.Shelf

theorem ln_at {l : List Pl.Ln} {k : Nat} (h : k < l.length) : l.getD k default = l[k] := by
  rw [List.getD_eq_getElem?_getD, List.getElem?_eq_getElem h]; rfl

set_option maxRecDepth 100000 in
theorem isIndexL_b (A : Option Addr) (n c : Nat) (hn : n ≤ maxLen) (i : Int) (v : Bool) (hv : decide (0 ≤ i ∧ i < (n : Int)) = v) (w : World) :
    Calls Tryd.prog 71 #[.slice A n c, .int .i64 i] w fun e w' => e = .returned (.bool v) ∧ w' = w := by
  have n63 := max63 hn
  have h1 : Pl.inB 0 i ((n : Int) - 1) = v := by
    rw [← hv, Bool.eq_iff_iff, Pl.inB_true, decide_eq_true_iff]; omega
  have HC := Lib.hid (within_b i 0 ((n : Int) - 1) v h1 w)
  have k1 : IntKind.i64.wrap ((n : Int) - 1) = (n : Int) - 1 := IntWalk.i64_in _ (by omega)
  clear hv hn h1
  go_enter Tryd.func71, Tryd.ntmps71
  go_wp2_with fail
  refine HC.out.mono ?_
  rintro e w1 ⟨rfl, rfl⟩
  go_wp2
  go_ret
  exact ⟨rfl, rfl⟩

set_option maxRecDepth 100000 in
set_option maxHeartbeats 8000000 in
theorem Line_b (A : Option Addr) (l : List Pl.Pr) (c : Nat) (B : Option Addr) (r : List Pl.Rt) (j : Nat) (f : Pl.Fm) (i : Int) (w : World) (hP : PrsIn w A l c) (hR : RtsIn w B r j) (hF : FmIn w f) :
    Calls Tryd.prog 27 #[.slice A l.length c, .slice B r.length j, .agg (fmA f), .int .i64 i] w fun e w' => e = .returned (.tuple #[.int .i64 (Pl.liV l r f i), .int .i64 (Pl.liE l r f i)]) ∧ Below w.heap.size w w' := by
  have hB := (Below.refl w.heap.size w).alloc (Nat.le_refl _) (.cells (fmA f) 28)
  have bF := Blk.new w 28 (fmA f)
  have HK := Lib.hid (fun w' hb => checkOrder_b A l c B r j f w' (hP.below (W' := w') hb) (hR.below hb) (hF.below hb))
  obtain ⟨V, hV⟩ : ∃ V, Pl.liV l r f i = V := ⟨_, rfl⟩
  obtain ⟨E, hE⟩ : ∃ E, Pl.liE l r f i = E := ⟨_, rfl⟩
  rw [hV, hE]
  unfold Pl.liV at hV
  unfold Pl.liE at hE
  obtain ⟨K, hK⟩ : ∃ K, Pl.ckE l r f = K := ⟨_, rfl⟩
  rw [hK] at hV hE HK
  have hr0 := bF.range
  have HFB := Lib.hid bF
  have hFl := bF.lt
  by_cases hk : K = 0
  rotate_left
  · rw [if_neg hk] at hV hE
    subst hV hE
    clear hP hR hF bF
    generalize hWo : w.alloc (.cells (fmA f) 28) = W at *
    go_enter Tryd.func27, Tryd.ntmps27
    go_wp2_with (refine ldm_fm hr0 rfl _ rfl rfl ?_)
    refine (HK.out _ hB).mono ?_
    rintro e w1 ⟨rfl, hb⟩
    have hB1 := hB.trans (hb.mono hB.size)
    go_wp2
    go_ret2
    exact ⟨rfl, hB1⟩
  subst hk
  rw [if_pos rfl] at hV hE
  have hc := Pl.ck_ok hK
  have hn1 := (Pl.vf_true.1 hc.f).n1
  obtain ⟨b, hb0⟩ : ∃ b, decide (0 ≤ i ∧ i < (f.ls.length : Int)) = b := ⟨_, rfl⟩
  have HI := Lib.hid (fun w' : World => isIndexL_b f.a f.ls.length f.k (by unfold maxLen; omega) i b hb0 w')
  cases b
  · have hi : ¬ (0 ≤ i ∧ i < (f.ls.length : Int)) := of_decide_eq_false hb0
    rw [if_neg hi] at hV hE
    subst hV hE
    clear hP hR hF bF hb0 hi hc hn1 hK
    generalize hWo : w.alloc (.cells (fmA f) 28) = W at *
    go_enter Tryd.func27, Tryd.ntmps27
    go_wp2_with (refine ldm_fm hr0 rfl _ rfl rfl ?_)
    refine (HK.out _ hB).mono ?_
    rintro e w1 ⟨rfl, hb⟩
    have hB1 := hB.trans (hb.mono hB.size)
    have f3 := (HFB.out.below hb hFl).cell 3
    clear hb HFB hr0 hB hFl hWo
    go_wp2_with fail
    refine (HI.out _).mono ?_
    rintro e w2 ⟨rfl, hw2⟩
    subst hw2
    go_wp2
    go_ret2
    exact ⟨rfl, hB1⟩
  have hi : 0 ≤ i ∧ i < (f.ls.length : Int) := of_decide_eq_true hb0
  rw [if_pos hi] at hV hE
  obtain ⟨k, rfl⟩ : ∃ k : Nat, i = (k : Int) := ⟨i.toNat, by omega⟩
  have hkl : k < f.ls.length := by omega
  have e1 : f.ls.getD (k : Int).toNat default = f.ls[k] := by rw [Int.toNat_natCast]; exact ln_at hkl
  rw [e1] at hV hE
  have HA := Lib.hid (fun w' hb => amount_b A l c B r j f f.ls[k] hc (List.getElem_mem hkl) w' (hP.below (W' := w') hb) (hR.below hb) (hF.below hb))
  rw [hV, hE] at HA
  have HRW := Lib.hid hF.rows
  obtain ⟨fcus, fd, fcur, fls, fa, fk⟩ := f
  simp only at hkl HRW HA e1 hi HI HK
  obtain ⟨bx, ox, rfl, hbx, hcx⟩ := HRW.out.open (by omega)
  have hrk := hcx k hkl
  have hkI : (k : Int) < (fls.length : Int) := by omega
  clear hP hR hF bF hb0 hi hc hn1 hK hV hE e1 HRW hcx
  generalize fls[k] = x at *
  generalize hWo : w.alloc (.cells (fmA ⟨fcus, fd, fcur, fls, some ⟨bx, ox, none⟩, fk⟩) 28) = W at *
  go_enter Tryd.func27, Tryd.ntmps27
  go_wp2_with (refine ldm_fm (s := ⟨fcus, fd, fcur, fls, some ⟨bx, ox, none⟩, fk⟩) hr0 rfl _ rfl rfl ?_)
  refine (HK.out _ hB).mono ?_
  rintro e w1 ⟨rfl, hb⟩
  have hB1 := hB.trans (hb.mono hB.size)
  have bF1 := HFB.out.below hb hFl
  have f3 := bF1.cell 3
  have hFl1 := bF1.lt
  clear hb HFB hr0 hB hFl hWo
  go_wp2_with fail
  refine (HI.out _).mono ?_
  rintro e w2 ⟨rfl, hw2⟩
  subst hw2
  have HA2 := Lib.hid (fun s : Ext w2 => HA.out s.w (hB1.trans (s.h.mono hB1.size)))
  have z0 := fun s : Ext w2 => (bF1.below s.h hFl1).cell 0
  have z1 := fun s : Ext w2 => (bF1.below s.h hFl1).cell 1
  have z2 := fun s : Ext w2 => (bF1.below s.h hFl1).cell 2
  have z3 := fun s : Ext w2 => (bF1.below s.h hFl1).cell 3
  have r0 : _ = some (Value.string x.md) := (rangeAt_below hrk hbx hB1) 0 _ rfl
  have r1 : _ = some (Value.int .i64 x.col) := (rangeAt_below hrk hbx hB1) 1 _ rfl
  have r2 : _ = some (Value.int .i64 x.siz) := (rangeAt_below hrk hbx hB1) 2 _ rfl
  have r3 : _ = some (Value.int .i64 x.cnt) := (rangeAt_below hrk hbx hB1) 3 _ rfl
  rw [Nat.add_zero] at r0
  have y0 := fun s : Ext w2 => s.cell (p := ⟨bx, ox + k * 4, none⟩) r0
  have y1 := fun s : Ext w2 => s.cell (p := ⟨bx, ox + k * 4 + 1, none⟩) r1
  have y2 := fun s : Ext w2 => s.cell (p := ⟨bx, ox + k * 4 + 2, none⟩) r2
  have y3 := fun s : Ext w2 => s.cell (p := ⟨bx, ox + k * 4 + 3, none⟩) r3
  clear f3 r0 r1 r2 r3 hrk bF1 HA HI HK
  go_wp2
  refine wp_region_ext (by kernel_rfl) (by kernel_rfl) ?_
  repeat (go_big_quiet_step (first | (go_at_call 72; refine calls_ext (HA2.out _))))
  refine wpQuiet_nil ?_
  rintro _ ⟨s, rfl⟩
  have hB3 := hB1.trans (s.h.mono hB1.size)
  go_wp2
  go_ret2
  exact ⟨rfl, hB3⟩

/-- what Invoice gives -/
def IvI (l : List Pl.Pr) (r : List Pl.Rt) (f : Pl.Fm) (w : World) (v : Value) (w' : World) : Prop := w'.ownsRow w.heap.size 3 1 v (Pl.ivV l r f).length (flt inL (Pl.ivV l r f)) ∧ Below w.heap.size w w'
theorem ivV_no {l : List Pl.Pr} {r : List Pl.Rt} {f : Pl.Fm} (h : Pl.ivE l r f ≠ 0) : Pl.ivV l r f = [] := if_neg h
theorem ivS_no {l : List Pl.Pr} {r : List Pl.Rt} {f : Pl.Fm} (h : Pl.ivE l r f ≠ 0) : Pl.ivS l r f = 0 := if_neg h
end Go.Proofs.YtdihnbjmeppbcaaDoor
