/- kindOf; slices.Grow and slices.Concat of two lists of entries. -/
import Derived.Test.YtalfffkcmddakaaF5
import Derived.Test.YtalfffkcmddakaaQ5
import Derived.Test.YtalfffkcmddakaaS1
import Derived.Lib.AppendZeros
namespace Go.Proofs.Ytalfffkcmddakaa
open Go.RowKit Go.Shelf

theorem run_eqEn (x y : Pl.En) (r : Bool) (hr : decide (x = y) = r) (w : World) : (Op.equalIn 10000 24 (.agg (enA x)) (.agg (enA y))).run Try.prog w = .ok r w := by
  subst hr
  have u3 := Try.underlying3
  have a3 := Try.isAgg3
  have q3 := Try.sizeOf3
  rw [show (10000 : Nat) = 9999 + 1 from rfl]
  obtain ⟨a, b, c, d⟩ := x
  obtain ⟨e, f, g, h⟩ := y
  go_simp
  by_cases h1 : a = e <;> by_cases h2 : b = f <;> by_cases h3 : c = g <;> by_cases h4 : d = h <;> simp [h1, h2, h3, h4]
theorem df_m {W : World} {b o : Nat} {d : Pl.Df} (h : W.rangeAt b o (dfL d)) : W.rangeAt b (o + 1) (enL d.m) := fun j v hv => by
  have := h (1 + j) v (by rw [Nat.add_comm]; match j, hv with | 0, hv => exact hv | 1, hv => exact hv | 2, hv => exact hv | 3, hv => exact hv)
  rwa [← Nat.add_assoc] at this
theorem df_t {W : World} {b o : Nat} {d : Pl.Df} (h : W.rangeAt b o (dfL d)) : W.rangeAt b (o + 5) (enL d.t) := fun j v hv => by
  have := h (5 + j) v (by rw [Nat.add_comm]; match j, hv with | 0, hv => exact hv | 1, hv => exact hv | 2, hv => exact hv | 3, hv => exact hv)
  rwa [← Nat.add_assoc] at this
theorem df_k {W : World} {b o : Nat} {d : Pl.Df} (h : W.rangeAt b o (dfL d)) : W.cell? ⟨b, o, none⟩ = some (.int .i64 d.k) := h 0 _ rfl
set_option maxRecDepth 100000 in
set_option maxHeartbeats 2000000 in
theorem kindof_b (d : Pl.Df) (v : Int) (hv : Pl.kd d.m d.t = v) (w : World) : Calls Try.prog 98 #[.agg (dfA d)] w fun e w' => e = .returned (.int .i64 v) ∧ Below w.heap.size w w' := by
  have hB := ((Below.refl w.heap.size w).alloc (Nat.le_refl _) (.cells (dfA d) 61)).alloc (by simp) (.cells (enA Pl.z0) 24)
  have bX := (Blk.new w 61 (dfA d)).alloc (.cells (enA Pl.z0) 24)
  have bZ := Blk.new (w.alloc (.cells (dfA d) 61)) 24 (enA Pl.z0)
  simp only [World.size_alloc] at bZ
  have bZ2 := bZ
  have hO := Only.refl (w.heap.size + 1) ((w.alloc (.cells (dfA d) 61)).alloc (.cells (enA Pl.z0) 24))
  have HB := Lib.hid hB
  have HX := Lib.hid bX
  clear hB bX bZ2 hO
  have z0 : enA Pl.z0 = #[.int .i64 0, .int .i64 0, .int .i64 0, .int .i64 0] := rfl
  by_cases h1 : d.t = Pl.z0
  case' pos =>
    have HV : Hid (v = 1) := Lib.hid (by rw [← hv]; unfold Pl.kd; rw [if_pos h1])
    have e1 : ∀ W, (Op.equalIn 10000 24 (.agg (enA d.t)) (.agg #[.int .i64 0, .int .i64 0, .int .i64 0, .int .i64 0])).run Try.prog W = .ok true W := fun W => run_eqEn d.t Pl.z0 true (decide_eq_true h1) W
  case' neg =>
    have e1 : ∀ W, (Op.equalIn 10000 24 (.agg (enA d.t)) (.agg #[.int .i64 0, .int .i64 0, .int .i64 0, .int .i64 0])).run Try.prog W = .ok false W := fun W => run_eqEn d.t Pl.z0 false (decide_eq_false h1) W
    by_cases h2 : d.m = Pl.z0
    case' pos =>
      have HV : Hid (v = 2) := Lib.hid (by rw [← hv]; unfold Pl.kd; rw [if_neg h1, if_pos h2])
      have e2 : ∀ W, (Op.equalIn 10000 24 (.agg (enA d.m)) (.agg #[.int .i64 0, .int .i64 0, .int .i64 0, .int .i64 0])).run Try.prog W = .ok true W := fun W => run_eqEn d.m Pl.z0 true (decide_eq_true h2) W
    case' neg =>
      have HV : Hid (v = 3) := Lib.hid (by rw [← hv]; unfold Pl.kd; rw [if_neg h1, if_neg h2])
      have e2 : ∀ W, (Op.equalIn 10000 24 (.agg (enA d.m)) (.agg #[.int .i64 0, .int .i64 0, .int .i64 0, .int .i64 0])).run Try.prog W = .ok false W := fun W => run_eqEn d.m Pl.z0 false (decide_eq_false h2) W
  all_goals
    clear hv h1
    go_enter Try.func98, Try.ntmps98
    go_wp2_with (first
      | (have h9 := bZ
         refine st_en (k := Pl.z0) bZ rfl rfl _ _ rfl rfl rfl ?_
         intro w3 bY hO3
         clear h9 bZ
         have HB3 := Lib.hid (HB.out.trans (hO3.below (B := w.heap.size) (Nat.le_succ _)))
         have bX3 : Blk w3 w.heap.size 61 (dfA d) := (hO3.block _ (by omega)).trans HX.out
         have r1 := df_m bX3.range
         have r5 := df_t bX3.range
         have rz := bY.range
         clear hO3 bY bX3)
      | (have h9 := r5; refine ldm_en (s := d.t) r5 rfl _ rfl rfl ?_; clear h9)
      | (have h9 := r1; refine ldm_en (s := d.m) r1 rfl _ rfl rfl ?_; clear h9)
      | (have h9 := rz; refine ldm_en (s := Pl.z0) rz rfl _ rfl rfl ?_; clear h9))
    go_ret
    exact ⟨by rw [HV.out]; rfl, HB3.out⟩

set_option maxRecDepth 100000 in
set_option maxHeartbeats 2000000 in
theorem grow0_e (w : World) :
    Calls Try.prog 120 #[.slice none 0 0, .int .i64 0] w fun e w' => e = .returned (.slice none 0 0) ∧ w' = w := by
  go_enter Try.func120, Try.ntmps120
  go_wp2
  go_ret
  exact ⟨rfl, rfl⟩
set_option maxRecDepth 100000 in
set_option maxHeartbeats 2000000 in
theorem grow_e (n : Nat) (h0 : 0 < n) (h64 : n ≤ 2000) (w : World) :
    Calls Try.prog 120 #[.slice none 0 0, .int .i64 n] w fun e w' => ∃ v, e = .returned v ∧ w'.ownsRow w.heap.size 24 4 v 0 (flt enL []) ∧ Below w.heap.size w w' := by
  obtain ⟨i0, hi, hz0, hz1, hz2⟩ := info_parts infoEn3
  have hrz := fun ty => Lib.run_append_nil_zeros w 22 3 ty 24 i0 _ .i64 .i64 Try.underlying22 Try.underlying3 hi hz0 n h0 (by rw [hz1]; omega) (by omega) (by rw [hz2]; omega)
  have hGm := grownCap_le_maxLen w n 0 24 (by unfold maxLen; omega)
  have hGn := grownCap_ge w n 0 24
  generalize grownCap w n 0 24 = G at *
  have hOwn : ∀ cur : Array Value, cur.size = G * 4 → ((w.drew).alloc (.cells cur 24)).ownsRow w.heap.size 24 4 (.slice (some ⟨w.drew.heap.size, 0, none⟩) 0 G) 0 (flt enL []) := fun cur hcur => World.ownsRow_made w.drew cur G (Nat.le_refl _) hGm hcur
  have HOwn := Lib.hid hOwn
  have hG63 : G ≤ 9223372036854775807 := by unfold maxLen at hGm; omega
  clear hOwn hGm
  go_enter Try.func120, Try.ntmps120
  go_wp2_with (at_builtin; refine Lib.wpList_append_run _ rfl _ _ _ _ rfl _ _ rfl rfl _ _ (hrz _) ?_)
  go_ret
  refine ⟨_, rfl, HOwn.out _ ?_, ((Below.refl _ w).drew).alloc (Nat.le_refl _) _⟩
  simp [Builtin.zeroCells]
  omega
/-- what the first k of two lists have -/
def cat (a b : List Pl.En) : Nat → List Pl.En
  | 0 => []
  | 1 => a
  | _ => a ++ b
set_option maxRecDepth 100000 in
set_option maxHeartbeats 8000000 in
theorem concat2_e (A1 A2 : Option Addr) (a b : List Pl.En) (n1 c1 n2 c2 : Nat) (hn1 : a.length = n1) (hn2 : b.length = n2) (hm1 : n1 ≤ 1000) (hm2 : n2 ≤ 1000) (hx1 : A1 = none → c1 = 0) (hx2 : A2 = none → c2 = 0) (w : World) (g : Nat) (hg : g < w.heap.size) (h0 : w.cell? ⟨g, 0, none⟩ = some (.slice A1 n1 c1)) (h1 : w.cell? ⟨g, 1, none⟩ = some (.slice A2 n2 c2)) (hR1 : Rows enL 4 w A1 a) (hR2 : Rows enL 4 w A2 b) :
    Calls Try.prog 97 #[.slice (some ⟨g, 0, none⟩) 2 2] w fun e w' => ∃ v, e = .returned v ∧ w'.ownsRow w.heap.size 24 4 v (n1 + n2) (flt enL (a ++ b)) ∧ Below w.heap.size w w' := by
  have HR1 := Lib.hid hR1
  have HR2 := Lib.hid hR2
  have HN1 := Lib.hid hn1
  have HN2 := Lib.hid hn2
  have HX1 := Lib.hid hx1
  have HX2 := Lib.hid hx2
  have HC0 := Lib.hid h0
  have HC1 := Lib.hid h1
  have HG : Hid (∀ n : Nat, n ≤ 2000 → Calls Try.prog 120 #[.slice none 0 0, .int .i64 n] w fun e w' => ∃ v, e = .returned v ∧ w'.ownsRow w.heap.size 24 4 v 0 (flt enL []) ∧ Below w.heap.size w w') := Lib.hid (fun n hn => by
    rcases Nat.eq_zero_or_pos n with rfl | h
    · exact (grow0_e w).mono fun e w' ⟨he, hw⟩ => by subst hw; exact ⟨_, he, World.ownsRow_nil _ _ _ _, Below.refl _ _⟩
    · exact grow_e n h hn w)
  clear hR1 hR2 hn1 hn2 hx1 hx2 h0 h1
  go_enter Try.func97, Try.ntmps97
  go_wp2
  go_loop [3, 5, 11] (fun s _ i => ∃ k : Nat, k ≤ 2 ∧ i = .int .i64 k ∧ s = .int .i64 ((if k = 0 then 0 else if k = 1 then n1 else n1 + n2 : Nat) : Int)) (fun _ _ i => 2 - (intOf i).toNat)
  case atStart => exact ⟨0, by omega, rfl, rfl⟩
  case round =>
    obtain ⟨k, hk, rfl, rfl⟩ := hrel
    have hk3 : k = 0 ∨ k = 1 ∨ k = 2 := by omega
    rcases hk3 with rfl | rfl | rfl
    · have q0 := HC0.out
      go_wp2
      go_round
      case rel => exact ⟨1, by omega, by simp, by simp⟩
      case measure => simp [intOf]
    · have q1 := HC1.out
      simp only [Nat.one_ne_zero, if_false, if_true]
      go_wp2
      go_round
      case rel => exact ⟨2, by omega, by simp, by simp⟩
      case measure => simp [intOf]
    · have HGm := Lib.hid (HG.out (n1 + n2) (by omega))
      have hcast : (((if (2 : Nat) = 0 then 0 else if (2 : Nat) = 1 then n1 else n1 + n2 : Nat)) : Int) = ((n1 + n2 : Nat) : Int) := by simp
      rw [hcast]
      clear hcast
      obtain ⟨m, hm⟩ : ∃ m, n1 + n2 = m := ⟨_, rfl⟩
      have HM := Lib.hid hm
      rw [hm] at HGm ⊢
      clear hm
      go_wp2_with fail
      refine HGm.out.mono ?_
      rintro e w1 ⟨v, rfl, hown, hb⟩
      have HO := Lib.hid hown
      clear hown
      go_wp2
      go_loopw [6, 8, 27] (fun v _ i wr => ∃ k : Nat, k ≤ 2 ∧ i = .int .i64 k ∧ Hid (wr.ownsRow w.heap.size 24 4 v (if k = 0 then 0 else if k = 1 then n1 else m) (flt enL (cat a b k))) ∧ Below w.heap.size w wr) (fun _ _ i _ => 2 - (intOf i).toNat)
      case atStart => exact ⟨0, by omega, rfl, HO, hb⟩
      case round =>
        clear hb HO
        obtain ⟨k, hk, rfl, HO, hB⟩ := hrel
        obtain ⟨w2, rfl⟩ : ∃ w2, w2 = wr := ⟨_, rfl⟩
        have hk3 : k = 0 ∨ k = 1 ∨ k = 2 := by omega
        rcases hk3 with rfl | rfl | rfl
        · have q0 := (hB.cell (p := ⟨g, 0, none⟩) hg).trans HC0.out
          have HB := Lib.hid hB
          clear hB
          go_wp2_with (at_builtin; refine wpList_appE rfl _ _ rfl w.heap.size _ 0 _ rfl HO.out HB.out.size A1 a n1 c1 HN1.out rfl (HR1.out.below HB.out) HX1.out (by omega) ?_; intro v3 w4 hO3 hb3)
          have HO3 := Lib.hid hO3
          have HB4 := Lib.hid (HB.out.trans hb3)
          clear hO3 hb3 q0
          go_roundw
          case rel => exact ⟨1, by omega, by simp, Lib.hid (by have := HO3.out; rw [Nat.zero_add] at this; exact this), HB4.out⟩
          case measure => simp [intOf]
        · have q1 := (hB.cell (p := ⟨g, 1, none⟩) hg).trans HC1.out
          have HB := Lib.hid hB
          have HO1 : Hid (w2.ownsRow w.heap.size 24 4 _ n1 (flt enL a)) := Lib.hid HO.out
          clear hB HO
          go_wp2_with (at_builtin; refine wpList_appE rfl _ _ rfl w.heap.size _ n1 _ rfl HO1.out HB.out.size A2 b n2 c2 HN2.out rfl (HR2.out.below HB.out) HX2.out (by omega) ?_; intro v3 w4 hO3 hb3)
          have HO3 := Lib.hid hO3
          have HB4 := Lib.hid (HB.out.trans hb3)
          clear hO3 hb3 q1
          go_roundw
          case rel => exact ⟨2, by omega, by simp, Lib.hid (by have := HO3.out; rw [HM.out] at this; show World.ownsRow _ _ _ _ _ m (flt enL (a ++ b)); rw [flt_append]; exact this), HB4.out⟩
          case measure => simp [intOf]
        · go_wp2
          go_ret
          exact ⟨_, rfl, by have := HO.out; rw [HM.out]; exact this, hB⟩
end Go.Proofs.Ytalfffkcmddakaa
