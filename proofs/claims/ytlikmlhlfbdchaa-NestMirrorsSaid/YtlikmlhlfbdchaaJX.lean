/- Merged: J1 J2 J3 J4 J5 J6 J7 J8 J9. -/
import Derived.Test.YtlikmlhlfbdchaaBY
import Derived.BigQuiet
/- nest: within, span, between, isFar. -/
namespace Go.Proofs.Ytlikmlhlfbdchaa
open Go.RowKit Go.Shelf
attribute [local go_sem] Oper.semAt_some
theorem Below.drewN {B : Nat} {w w' : World} (h : Below B w w') {n : Nat} : Below B w (w'.drewN n) := ⟨h.os, h.tape, h.output, h.size, h.block⟩
namespace Ne
def dt (d p : Geo.XY) : Int := d.1 * p.1 + d.2 * p.2
def lo (d : Geo.XY) (l : List Geo.XY) : Nat → Int
  | 0 => dt d (Geo.X l 0)
  | k + 1 => if dt d (Geo.X l (k + 1)) < lo d l k then dt d (Geo.X l (k + 1)) else lo d l k
def hi (d : Geo.XY) (l : List Geo.XY) : Nat → Int
  | 0 => dt d (Geo.X l 0)
  | k + 1 => if hi d l k < dt d (Geo.X l (k + 1)) then dt d (Geo.X l (k + 1)) else hi d l k
def Bd (p : Geo.XY) : Prop := -1000000 ≤ p.1 ∧ p.1 ≤ 1000000 ∧ -1000000 ≤ p.2 ∧ p.2 ≤ 1000000
def AllBd (l : List Geo.XY) : Prop := ∀ k, k < l.length → Bd (Geo.X l k)
end Ne

theorem within_b (n a b : Int) (r : Bool) (hr : decide (a ≤ n ∧ n ≤ b) = r) (w : World) :
    Calls Try.prog 49 #[.int .i64 n, .int .i64 a, .int .i64 b] w fun e w' => e = .returned (.bool r) ∧ Below w.heap.size w w' := by
  have HR := Lib.hid hr
  clear hr
  by_cases h1 : a ≤ n
  · by_cases h2 : n ≤ b
    · have e1 : (decide (a ≤ n)) = true := by simp [h1]
      have e2 : (decide (n ≤ b)) = true := by simp [h2]
      have HV : Hid (r = true) := Lib.hid (HR.out.symm.trans (by simp [h1, h2]))
      clear h1 h2 HR
      go_enter Try.func49, Try.ntmps49
      go_wp2
      go_ret
      exact ⟨by rw [HV.out]; rfl, Below.refl _ _⟩
    · have e1 : (decide (a ≤ n)) = true := by simp [h1]
      have e2 : (decide (n ≤ b)) = false := by simp; omega
      have HV : Hid (r = false) := Lib.hid (HR.out.symm.trans (by simp [h1, h2]))
      clear h1 h2 HR
      go_enter Try.func49, Try.ntmps49
      go_wp2
      go_ret
      exact ⟨by rw [HV.out]; rfl, Below.refl _ _⟩
  · have e1 : (decide (a ≤ n)) = false := by simp; omega
    have HV : Hid (r = false) := Lib.hid (HR.out.symm.trans (by simp [h1]))
    clear h1 HR
    go_enter Try.func49, Try.ntmps49
    go_wp2
    go_ret
    exact ⟨by rw [HV.out]; rfl, Below.refl _ _⟩

namespace Ne
theorem dt_bd {d p : Geo.XY} (hd : Bd d) (hp : Bd p) : (-1000000000000 ≤ d.1 * p.1 ∧ d.1 * p.1 ≤ 1000000000000) ∧ (-1000000000000 ≤ d.2 * p.2 ∧ d.2 * p.2 ≤ 1000000000000) := by
  obtain ⟨a1, a2, a3, a4⟩ := hd
  obtain ⟨b1, b2, b3, b4⟩ := hp
  have m1 := mul_bd (a := d.1) (b := p.1) (A := 1000000) (B := 1000000) (by omega) (by omega) (by omega) (by omega)
  have m2 := mul_bd (a := d.2) (b := p.2) (A := 1000000) (B := 1000000) (by omega) (by omega) (by omega) (by omega)
  omega
theorem lo_bd {d : Geo.XY} {l : List Geo.XY} (hd : Bd d) (hl : AllBd l) (k : Nat) (hk : k < l.length) : -2000000000000 ≤ lo d l k ∧ lo d l k ≤ 2000000000000 := by
  induction k with
  | zero => have := dt_bd hd (hl 0 hk); unfold lo dt; omega
  | succ k ih => have := ih (by omega); have := dt_bd hd (hl (k + 1) hk); unfold lo; split <;> unfold dt at * <;> omega
theorem hi_bd {d : Geo.XY} {l : List Geo.XY} (hd : Bd d) (hl : AllBd l) (k : Nat) (hk : k < l.length) : -2000000000000 ≤ hi d l k ∧ hi d l k ≤ 2000000000000 := by
  induction k with
  | zero => have := dt_bd hd (hl 0 hk); unfold hi dt; omega
  | succ k ih => have := ih (by omega); have := dt_bd hd (hl (k + 1) hk); unfold hi; split <;> unfold dt at * <;> omega
end Ne
end Go.Proofs.Ytlikmlhlfbdchaa
/- nest: span. -/
namespace Go.Proofs.Ytlikmlhlfbdchaa
open Go.RowKit Go.Shelf
attribute [local go_sem] Oper.semAt_some

set_option maxRecDepth 100000 in
set_option maxHeartbeats 2000000 in
theorem span_any (A : Option Addr) (l : List Geo.XY) (c : Nat) (d : Geo.XY) (h2 : 2 ≤ l.length) (hl : l.length ≤ 100000) (hcap : l.length ≤ c) (hd : Ne.Bd d) (hbd : Ne.AllBd l) (w : World) (hr : Pts w A l) :
    Calls Try.prog 97 #[.slice A l.length c, .agg #[.int .i64 d.1, .int .i64 d.2]] w fun e w' => e = .returned (.tuple #[.int .i64 (Ne.lo d l (l.length - 1)), .int .i64 (Ne.hi d l (l.length - 1))]) ∧ Below w.heap.size w w' := by
  obtain ⟨b, off, rfl, hb, hc⟩ := pts_open hr (by omega)
  have HC := Lib.hid hc
  have HBD := Lib.hid hbd
  obtain ⟨m1, m2⟩ := Ne.dt_bd hd (hbd 0 (by omega))
  have HD := Lib.hid hd
  clear hc hbd hr hd
  have c1 : w.cell? ⟨b, off, none⟩ = some (.int .i64 (Geo.X l 0).1) := by have := (HC.out 0 (by omega)).1; simpa using this
  have c2 : w.cell? ⟨b, off + 1, none⟩ = some (.int .i64 (Geo.X l 0).2) := by have := (HC.out 0 (by omega)).2; simpa using this
  have bD := Blk.new w 76 #[.int .i64 d.1, .int .i64 d.2]
  have d1 := bD.cell 0
  have d2 := bD.cell 1
  have hB := (Below.refl w.heap.size w).alloc (Nat.le_refl _) (.cells #[.int .i64 d.1, .int .i64 d.2] 76)
  have HN1 : Hid (((l.length - 1 : Nat) : Int) = (l.length : Int) - 1) := Lib.hid (by omega)
  go_enter Try.func97, Try.ntmps97
  have hf : (w.alloc (.cells #[.int .i64 d.1, .int .i64 d.2] 76)).cell? ⟨b, off, none⟩ = some (.int .i64 (Geo.X l 0).1) := (hB.cell (p := ⟨b, off, none⟩) hb).trans c1
  have hg : (w.alloc (.cells #[.int .i64 d.1, .int .i64 d.2] 76)).cell? ⟨b, off + 1, none⟩ = some (.int .i64 (Geo.X l 0).2) := (hB.cell (p := ⟨b, off + 1, none⟩) hb).trans c2
  simp only [List.getElem?_toArray, List.getElem?_cons_zero, List.getElem?_cons_succ] at d1 d2
  generalize hw1 : w.alloc (.cells #[.int .i64 d.1, .int .i64 d.2] 76) = w1 at *
  go_wp2
  go_quiet (fail)
  go_wp2
  have HL0 : Hid (d.1 * (Geo.X l 0).1 + d.2 * (Geo.X l 0).2 = Ne.lo d l 0) := Lib.hid rfl
  have HL1 : Hid (d.1 * (Geo.X l 0).1 + d.2 * (Geo.X l 0).2 = Ne.hi d l 0) := Lib.hid rfl
  go_loopw [4, 5, 28] (fun a b i wr => ∃ k : Nat, k ≤ l.length - 1 ∧ i = .int .i64 k ∧ a = .int .i64 (Ne.lo d l k) ∧ b = .int .i64 (Ne.hi d l k) ∧ Below w1.heap.size w1 wr) (fun _ _ i _ => l.length - (intOf i).toNat)
  case atStart => exact ⟨0, Nat.zero_le _, rfl, by rw [HL0.out], by rw [HL1.out], Go.Proofs.Ytlikmlhlfbdchaa.Below.drewN (Below.refl _ _)⟩
  case round =>
    obtain ⟨k, hk, rfl, rfl, rfl, hBr⟩ := hrel
    by_cases hlt : k < l.length - 1
    · obtain ⟨n1, n2⟩ := Ne.dt_bd HD.out (HBD.out (k + 1) (by omega))
      have hlo := Ne.lo_bd HD.out HBD.out k (by omega)
      have hhi := Ne.hi_bd HD.out HBD.out k (by omega)
      have e1 : wr.cell? ⟨b, off + 2 + k * 2, none⟩ = some (.int .i64 (Geo.X l (k + 1)).1) := by
        rw [show off + 2 + k * 2 = off + (k + 1) * 2 by omega]; exact (hBr.cell (p := ⟨b, off + (k + 1) * 2, none⟩) (by have := hB.size; show b < _; omega)).trans ((hB.cell (p := ⟨b, off + (k + 1) * 2, none⟩) hb).trans (HC.out (k + 1) (by omega)).1)
      have e2 : wr.cell? ⟨b, off + 2 + k * 2 + 1, none⟩ = some (.int .i64 (Geo.X l (k + 1)).2) := by
        rw [show off + 2 + k * 2 = off + (k + 1) * 2 by omega]; exact (hBr.cell (p := ⟨b, off + (k + 1) * 2 + 1, none⟩) (by have := hB.size; show b < _; omega)).trans ((hB.cell (p := ⟨b, off + (k + 1) * 2 + 1, none⟩) hb).trans (HC.out (k + 1) (by omega)).2)
      obtain ⟨W2, hW2⟩ : ∃ W2, W2 = wr.alloc (.cells #[.int .i64 (Geo.X l (k + 1)).1, .int .i64 (Geo.X l (k + 1)).2] 76) := ⟨_, rfl⟩
      have bD2 : Blk W2 w.heap.size 76 #[.int .i64 d.1, .int .i64 d.2] := by rw [hW2]; exact (bD.below hBr bD.lt).alloc _
      have bN : Blk W2 wr.heap.size 76 #[.int .i64 (Geo.X l (k + 1)).1, .int .i64 (Geo.X l (k + 1)).2] := by rw [hW2]; exact Blk.new _ _ _
      have hB2 : Below w1.heap.size w1 W2 := by rw [hW2]; exact hBr.alloc hBr.size _
      have q1 := bD2.cell 0
      have q2 := bD2.cell 1
      have q3 := bN.cell 0
      have q4 := bN.cell 1
      simp only [List.getElem?_toArray, List.getElem?_cons_zero, List.getElem?_cons_succ] at q1 q2 q3 q4
      rw [hW2] at q1 q2 q3 q4
      have HL : Hid ((if d.1 * (Geo.X l (k + 1)).1 + d.2 * (Geo.X l (k + 1)).2 < Ne.lo d l k then d.1 * (Geo.X l (k + 1)).1 + d.2 * (Geo.X l (k + 1)).2 else Ne.lo d l k) = Ne.lo d l (k + 1)) := Lib.hid rfl
      have HH : Hid ((if Ne.hi d l k < d.1 * (Geo.X l (k + 1)).1 + d.2 * (Geo.X l (k + 1)).2 then d.1 * (Geo.X l (k + 1)).1 + d.2 * (Geo.X l (k + 1)).2 else Ne.hi d l k) = Ne.hi d l (k + 1)) := Lib.hid rfl
      generalize Ne.lo d l k = lk at *
      generalize Ne.hi d l k = hk' at *
      generalize (Geo.X l (k + 1)).1 = x1 at *
      generalize (Geo.X l (k + 1)).2 = x2 at *
      go_wp2
      go_roundw
      case rel => exact ⟨k + 1, by omega, by go_num, by rw [HL.out], by rw [HH.out], by rw [← hW2]; exact hB2⟩
      case measure => simp [intOf]; omega
    · obtain rfl : k = l.length - 1 := by omega
      go_wp2
      refine bodyPost_ret (v := .tuple #[.int .i64 (Ne.lo d l (l.length - 1)), .int .i64 (Ne.hi d l (l.length - 1))]) (by simp [results, Try.results97, go_sem]) rfl ?_
      exact ⟨rfl, hB.trans (hBr.mono hB.size)⟩
end Go.Proofs.Ytlikmlhlfbdchaa
/- nest: between, isFar. -/
namespace Go.Proofs.Ytlikmlhlfbdchaa
open Go.RowKit Go.Shelf
attribute [local go_sem] Oper.semAt_some
namespace Ne
theorem sq_nn (a : Int) : 0 ≤ a * a := by
  rcases Int.le_total 0 a with h | h
  · exact Int.mul_nonneg h h
  · have := Int.mul_nonneg (show 0 ≤ -a by omega) (show 0 ≤ -a by omega); rwa [Int.neg_mul_neg] at this
def lo1 (d : Geo.XY) (l : List Geo.XY) : Int := lo d l (l.length - 1)
def hi1 (d : Geo.XY) (l : List Geo.XY) : Int := hi d l (l.length - 1)
/-- by how much one of two outlines is beyond the other in a direction -/
def btw (o p : List Geo.XY) (d : Geo.XY) : Int := if lo1 d o - hi1 d p < lo1 d p - hi1 d o then lo1 d p - hi1 d o else lo1 d o - hi1 d p
def farB (x g : Int) (d : Geo.XY) : Bool := decide (0 ≤ x ∧ g * g * (d.1 * d.1 + d.2 * d.2) ≤ x * x)
theorem lo1_bd {d : Geo.XY} {l : List Geo.XY} (hd : Bd d) (hl : AllBd l) (h : 0 < l.length) : -2000000000000 ≤ lo1 d l ∧ lo1 d l ≤ 2000000000000 := lo_bd hd hl _ (by omega)
theorem hi1_bd {d : Geo.XY} {l : List Geo.XY} (hd : Bd d) (hl : AllBd l) (h : 0 < l.length) : -2000000000000 ≤ hi1 d l ∧ hi1 d l ≤ 2000000000000 := hi_bd hd hl _ (by omega)
end Ne
theorem span_b (A : Option Addr) (l : List Geo.XY) (c : Nat) (d : Geo.XY) (h2 : 2 ≤ l.length) (hl : l.length ≤ 100000) (hcap : l.length ≤ c) (hd : Ne.Bd d) (hbd : Ne.AllBd l) (x y : Int) (hx : Ne.lo1 d l = x) (hy : Ne.hi1 d l = y) (w : World) (hr : Pts w A l) :
    Calls Try.prog 97 #[.slice A l.length c, .agg #[.int .i64 d.1, .int .i64 d.2]] w fun e w' => e = .returned (.tuple #[.int .i64 x, .int .i64 y]) ∧ Below w.heap.size w w' := by
  subst hx hy; exact span_any A l c d h2 hl hcap hd hbd w hr

set_option maxRecDepth 100000 in
set_option maxHeartbeats 2000000 in
theorem isfar_b (x g : Int) (d : Geo.XY) (hx : -5000000000000 ≤ x) (hx' : x ≤ 4294967295) (hg : 0 ≤ g) (hg' : g ≤ 2000) (hd : Ne.Bd d) (r : Bool) (hr : Ne.farB x g d = r) (w : World) :
    Calls Try.prog 89 #[.int .i64 x, .int .i64 g, .agg #[.int .i64 d.1, .int .i64 d.2]] w fun e w' => e = .returned (.bool r) ∧ Below w.heap.size w w' := by
  have bD := Blk.new w 76 #[.int .i64 d.1, .int .i64 d.2]
  have d1 := bD.cell 0
  have d2 := bD.cell 1
  have hW := (Below.refl w.heap.size w).alloc (Nat.le_refl _) (.cells #[.int .i64 d.1, .int .i64 d.2] 76)
  simp only [List.getElem?_toArray, List.getElem?_cons_zero, List.getElem?_cons_succ] at d1 d2
  have HR := Lib.hid hr
  clear hr bD
  by_cases h0 : x < 0
  · have HF : Hid (false = r) := Lib.hid (by rw [← HR.out]; unfold Ne.farB; rw [decide_eq_false]; omega)
    clear hd
    go_enter Try.func89, Try.ntmps89
    go_wp2
    go_ret
    exact ⟨by rw [← HF.out]; rfl, hW⟩
  · obtain ⟨x1, x2, x3, x4⟩ := hd
    have e1 : d.1 * d.1 ≤ 1000000000000 ∧ 0 ≤ d.1 * d.1 := ⟨(mul_bd (a := d.1) (b := d.1) (A := 1000000) (B := 1000000) (by omega) (by omega) (by omega) (by omega)).2, Ne.sq_nn _⟩
    have e2 : d.2 * d.2 ≤ 1000000000000 ∧ 0 ≤ d.2 * d.2 := ⟨(mul_bd (a := d.2) (b := d.2) (A := 1000000) (B := 1000000) (by omega) (by omega) (by omega) (by omega)).2, Ne.sq_nn _⟩
    have e3 : g * g ≤ 4000000 ∧ 0 ≤ g * g := ⟨(mul_bd (a := g) (b := g) (A := 2000) (B := 2000) (by omega) (by omega) (by omega) (by omega)).2, Ne.sq_nn _⟩
    have e4 : x * x ≤ 18446744065119617025 ∧ 0 ≤ x * x := ⟨(mul_bd (a := x) (b := x) (A := 4294967295) (B := 4294967295) (by omega) (by omega) (by omega) (by omega)).2, Ne.sq_nn _⟩
    have e5 : g * g * (d.1 * d.1 + d.2 * d.2) ≤ 8000000000000000000 := by
      have := (mul_bd (a := g * g) (b := d.1 * d.1 + d.2 * d.2) (A := 4000000) (B := 2000000000000) (by omega) (by omega) (by omega) (by omega)).2
      omega
    have e6 : 0 ≤ g * g * (d.1 * d.1 + d.2 * d.2) := Int.mul_nonneg e3.2 (by omega)
    have HF : Hid (decide (g * g * (d.1 * d.1 + d.2 * d.2) ≤ x * x) = r) := Lib.hid (by rw [← HR.out]; unfold Ne.farB; apply decide_eq_decide.2; omega)
    clear HR
    go_enter Try.func89, Try.ntmps89
    go_wp2
    go_ret
    exact ⟨by rw [← HF.out]; rfl, hW⟩
end Go.Proofs.Ytlikmlhlfbdchaa
/- nest: between. -/
namespace Go.Proofs.Ytlikmlhlfbdchaa
open Go.RowKit Go.Shelf
attribute [local go_sem] Oper.semAt_some

set_option maxRecDepth 100000 in
set_option maxHeartbeats 400000 in
theorem between_b (A B : Option Addr) (o p : List Geo.XY) (c c' : Nat) (d : Geo.XY) (h2 : 2 ≤ o.length) (hl : o.length ≤ 100000) (hcap : o.length ≤ c) (k2 : 2 ≤ p.length) (kl : p.length ≤ 100000) (kcap : p.length ≤ c')
    (hd : Ne.Bd d) (ho : Ne.AllBd o) (hp : Ne.AllBd p) (r : Int) (hr : Ne.btw o p d = r) (w : World) (hA : Pts w A o) (hB : Pts w B p) :
    Calls Try.prog 90 #[.slice A o.length c, .slice B p.length c', .agg #[.int .i64 d.1, .int .i64 d.2]] w fun e w' => e = .returned (.int .i64 r) ∧ Below w.heap.size w w' := by
  obtain ⟨a1, ha1⟩ : ∃ a, Ne.lo1 d o = a := ⟨_, rfl⟩
  obtain ⟨a2, ha2⟩ : ∃ a, Ne.hi1 d o = a := ⟨_, rfl⟩
  obtain ⟨b1, hb1⟩ : ∃ a, Ne.lo1 d p = a := ⟨_, rfl⟩
  obtain ⟨b2, hb2⟩ : ∃ a, Ne.hi1 d p = a := ⟨_, rfl⟩
  have g1 := Ne.lo1_bd hd ho (by omega)
  have g2 := Ne.hi1_bd hd ho (by omega)
  have g3 := Ne.lo1_bd hd hp (by omega)
  have g4 := Ne.hi1_bd hd hp (by omega)
  rw [ha1] at g1; rw [ha2] at g2; rw [hb1] at g3; rw [hb2] at g4
  have HR : Hid ((if a1 - b2 < b1 - a2 then b1 - a2 else a1 - b2) = r) := Lib.hid (by rw [← hr, ← ha1, ← ha2, ← hb1, ← hb2]; rfl)
  have H1 := Lib.hid ha1
  have H2 := Lib.hid ha2
  have H3 := Lib.hid hb1
  have H4 := Lib.hid hb2
  have HA := Lib.hid hA
  have HB := Lib.hid hB
  have HD := Lib.hid hd
  have HO := Lib.hid ho
  have HP := Lib.hid hp
  clear ha1 ha2 hb1 hb2 hA hB hd ho hp hr
  have bD := Blk.new w 76 #[.int .i64 d.1, .int .i64 d.2]
  have d1 := bD.cell 0
  have d2 := bD.cell 1
  have hW := (Below.refl w.heap.size w).alloc (Nat.le_refl _) (.cells #[.int .i64 d.1, .int .i64 d.2] 76)
  simp only [List.getElem?_toArray, List.getElem?_cons_zero, List.getElem?_cons_succ] at d1 d2
  go_enter Try.func90, Try.ntmps90
  generalize hw1 : w.alloc (.cells #[.int .i64 d.1, .int .i64 d.2] 76) = w1 at *
  have hs1 := hW.size
  go_wp2_with fail
  refine (span_b A o c d h2 hl hcap HD.out HO.out _ _ H1.out H2.out _ (HA.out.below hW)).mono ?_
  rintro e w2 ⟨rfl, hb1⟩
  have bD2 := bD.below hb1 bD.lt
  have q1 := bD2.cell 0
  have q2 := bD2.cell 1
  simp only [List.getElem?_toArray, List.getElem?_cons_zero, List.getElem?_cons_succ] at q1 q2
  have hW2 := hW.trans (hb1.mono hs1)
  clear d1 d2
  go_wp2_with fail
  refine (span_b B p c' d k2 kl kcap HD.out HP.out _ _ H3.out H4.out _ (HB.out.below hW2)).mono ?_
  rintro e w3 ⟨rfl, hb2⟩
  have hW3 := hW2.trans (hb2.mono hW2.size)
  go_wp2
  all_goals go_ret
  all_goals
    refine ⟨?_, hW3⟩
    rw [← HR.out]
    first
      | rw [if_pos (by assumption)]; rfl
      | rw [if_neg (by omega)]; rfl
end Go.Proofs.Ytlikmlhlfbdchaa
/- nest, the reference: enough. -/
namespace Go.Proofs.Ytlikmlhlfbdchaa
open Go.RowKit Go.Shelf
attribute [local go_sem] Oper.semAt_some
namespace Ne
/-- at least g as a length, in a direction with the square n -/
def enB (x g n : Int) : Bool := decide (0 ≤ x ∧ g * g * n ≤ x * x)
theorem farB_en (x g : Int) (d : Geo.XY) : farB x g d = enB x g (d.1 * d.1 + d.2 * d.2) := rfl
theorem en_big {x g n : Int} (hx : 1000000000 < x) (hg : 0 ≤ g) (hg' : g ≤ 2000) (hn : 0 ≤ n) (hn' : n ≤ 20000000000) : g * g * n ≤ x * x := by
  have h1 := (mul_bd (a := g) (b := g) (A := 2000) (B := 2000) (by omega) (by omega) (by omega) (by omega)).2
  have h2 := (mul_bd (a := g * g) (b := n) (A := 4000000) (B := 20000000000) (by have := sq_nn g; omega) (by omega) (by omega) (by omega)).2
  have h3 : 1000000000 * 1000000000 ≤ x * x := Int.mul_le_mul (by omega) (by omega) (by omega) (by omega)
  omega
end Ne

set_option maxRecDepth 100000 in
set_option maxHeartbeats 2000000 in
theorem enough_b (x g n : Int) (hx : -2000000000000 ≤ x) (hx' : x ≤ 2000000000000) (hg : 0 ≤ g) (hg' : g ≤ 2000) (hn : 0 ≤ n) (hn' : n ≤ 20000000000) (r : Bool) (hr : Ne.enB x g n = r) (w : World) :
    Calls Try.prog 128 #[.int .i64 x, .int .i64 g, .int .i64 n] w fun e w' => e = .returned (.bool r) ∧ Below w.heap.size w w' := by
  by_cases h1 : x < 0
  · have HF : Hid (r = false) := Lib.hid (by rw [← hr]; unfold Ne.enB; rw [decide_eq_false]; omega)
    have e1 : decide (x < 0) = true := by simp [h1]
    have e2 : decide (0 ≤ x) = false := by simp; omega
    clear hr
    go_enter Try.func128, Try.ntmps128
    go_wp2
    go_ret
    exact ⟨by rw [HF.out]; rfl, Below.refl _ _⟩
  · have e1 : decide (x < 0) = false := by simp; omega
    have e2 : decide (0 ≤ x) = true := by simp; omega
    by_cases h2 : g = 0
    · have HF : Hid (r = true) := Lib.hid (by rw [← hr]; unfold Ne.enB; rw [decide_eq_true]; have := Ne.sq_nn x; subst h2; simp; omega)
      clear hr
      subst h2
      go_enter Try.func128, Try.ntmps128
      go_wp2
      all_goals go_ret
      all_goals exact ⟨by rw [HF.out]; rfl, Below.refl _ _⟩
    · by_cases h3 : 1000000000 < x
      · have HF : Hid (r = true) := Lib.hid (by rw [← hr]; unfold Ne.enB; rw [decide_eq_true]; exact ⟨by omega, Ne.en_big h3 hg hg' hn hn'⟩)
        have e3 : decide (1000000000 < x) = true := by simp [h3]
        clear hr
        go_enter Try.func128, Try.ntmps128
        go_wp2
        all_goals go_ret
        all_goals exact ⟨by rw [HF.out]; rfl, Below.refl _ _⟩
      · have HF : Hid (r = decide (g * g * n ≤ x * x)) := Lib.hid (by rw [← hr]; unfold Ne.enB; apply decide_eq_decide.2; omega)
        have m1 := (mul_bd (a := g) (b := g) (A := 2000) (B := 2000) (by omega) (by omega) (by omega) (by omega)).2
        have m0 := Ne.sq_nn g
        have m2 := (mul_bd (a := g * g) (b := n) (A := 4000000) (B := 20000000000) (by omega) (by omega) (by omega) (by omega)).2
        have m3 : 0 ≤ g * g * n := Int.mul_nonneg m0 hn
        have m4 := (mul_bd (a := x) (b := x) (A := 1000000000) (B := 1000000000) (by omega) (by omega) (by omega) (by omega)).2
        have m5 := Ne.sq_nn x
        clear hr
        go_enter Try.func128, Try.ntmps128
        go_wp2
        all_goals go_ret
        all_goals exact ⟨by rw [HF.out]; rfl, Below.refl _ _⟩
end Go.Proofs.Ytlikmlhlfbdchaa
/- nest, plain: least and greatest numbers in a direction; a corner strictly inside is strictly between them. -/
namespace Go.Proofs.Ytlikmlhlfbdchaa
namespace Ne
theorem lo_le (d : Geo.XY) (l : List Geo.XY) (k j : Nat) (h : j ≤ k) : lo d l k ≤ dt d (Geo.X l j) := by
  induction k with
  | zero => obtain rfl : j = 0 := by omega
            exact Int.le_refl _
  | succ k ih =>
    unfold lo
    by_cases hj : j = k + 1
    · subst hj; split <;> omega
    · have := ih (by omega); split <;> omega
theorem lo_at (d : Geo.XY) (l : List Geo.XY) (k : Nat) : ∃ j, j ≤ k ∧ lo d l k = dt d (Geo.X l j) := by
  induction k with
  | zero => exact ⟨0, by omega, rfl⟩
  | succ k ih =>
    obtain ⟨j, hj, e⟩ := ih
    unfold lo
    split
    · exact ⟨k + 1, by omega, rfl⟩
    · exact ⟨j, by omega, e⟩
theorem le_hi (d : Geo.XY) (l : List Geo.XY) (k j : Nat) (h : j ≤ k) : dt d (Geo.X l j) ≤ hi d l k := by
  induction k with
  | zero => obtain rfl : j = 0 := by omega
            exact Int.le_refl _
  | succ k ih =>
    unfold hi
    by_cases hj : j = k + 1
    · subst hj; split <;> omega
    · have := ih (by omega); split <;> omega
theorem hi_at (d : Geo.XY) (l : List Geo.XY) (k : Nat) : ∃ j, j ≤ k ∧ hi d l k = dt d (Geo.X l j) := by
  induction k with
  | zero => exact ⟨0, by omega, rfl⟩
  | succ k ih =>
    obtain ⟨j, hj, e⟩ := ih
    unfold hi
    split
    · exact ⟨k + 1, by omega, rfl⟩
    · exact ⟨j, by omega, e⟩
theorem dt_neg (d p : Geo.XY) : dt (-d.1, -d.2) p = -dt d p := by unfold dt; rw [Int.neg_mul, Int.neg_mul]; omega
theorem hi_neg (d : Geo.XY) (l : List Geo.XY) (k : Nat) : hi (-d.1, -d.2) l k = -lo d l k := by
  induction k with
  | zero => exact dt_neg _ _
  | succ k ih =>
    unfold hi lo
    rw [ih, dt_neg]
    by_cases h : dt d (Geo.X l (k + 1)) < lo d l k
    · rw [if_pos (by omega), if_pos h]
    · rw [if_neg (by omega), if_neg h]
/-- what one of two lists is beyond the other is the greater of the two ways -/
theorem btw_far (o p : List Geo.XY) (d : Geo.XY) : (0 ≤ btw o p d ↔ (hi1 d p ≤ lo1 d o ∨ hi1 d o ≤ lo1 d p)) := by
  unfold btw
  split <;> omega
theorem btw_comm (o p : List Geo.XY) (d : Geo.XY) : btw o p d = btw p o d := by
  unfold btw
  split <;> split <;> omega
/-- a lesser gap does, where a greater one does -/
theorem far_less {x g h : Int} {d : Geo.XY} (hh : 0 ≤ h) (hg : h ≤ g) (hf : farB x g d = true) : farB x h d = true := by
  unfold farB at hf ⊢
  simp only [decide_eq_true_eq] at hf ⊢
  refine ⟨hf.1, Int.le_trans ?_ hf.2⟩
  exact Int.mul_le_mul_of_nonneg_right (Int.mul_le_mul hg hg hh (by omega)) (by have := sq_nn d.1; have := sq_nn d.2; omega)

/-- turns about a place, seen by a number that is below 0 all round: they can't all be to the left -/
theorem no_round (x y : Nat → Int) (n : Nat) (hn : 0 < n) (hx : ∀ k, x k ≤ 0) (hc : ∀ k, 0 < x k * y (k + 1) - y k * x (k + 1)) (hp : x n = x 0 ∧ y n = y 0) : False := by
  have hneg : ∀ k, x (k + 1) < 0 := by
    intro k
    have h1 := hc k
    have h2 := hc (k + 1)
    rcases Int.lt_or_le (x (k + 1)) 0 with h | h
    · exact h
    · exfalso
      have h0 : x (k + 1) = 0 := by have := hx (k + 1); omega
      rw [h0] at h1 h2
      simp only [Int.mul_zero, Int.sub_zero, Int.zero_mul, Int.zero_sub] at h1 h2
      have ya : ¬ 0 ≤ y (k + 1) := fun hy => by
        have := Int.mul_nonneg hy (show 0 ≤ -x k by have := hx k; omega)
        rw [Int.mul_neg, Int.mul_comm] at this; omega
      have := Int.mul_nonneg (show 0 ≤ -y (k + 1) by omega) (show 0 ≤ -x (k + 1 + 1) by have := hx (k + 1 + 1); omega)
      rw [Int.neg_mul_neg] at this
      omega
  have hneg0 : x 0 < 0 := by rw [← hp.1]; obtain ⟨m, rfl⟩ : ∃ m, n = m + 1 := ⟨n - 1, by omega⟩; exact hneg m
  have hall : ∀ k, x k < 0 := fun k => by cases k with
    | zero => exact hneg0
    | succ k => exact hneg k
  have hstep : ∀ k, 0 < x 0 * y (k + 1) - y 0 * x (k + 1) := by
    intro k
    induction k with
    | zero => exact hc 0
    | succ k ih =>
      have h2 := hc (k + 1)
      -- times -x (k+2) and -x 0
      have t1 := Int.mul_pos ih (show 0 < -x (k + 1 + 1) by have := hall (k + 1 + 1); omega)
      have t2 := Int.mul_pos h2 (show 0 < -x 0 by omega)
      have e : (x 0 * y (k + 1) - y 0 * x (k + 1)) * -x (k + 1 + 1) + (x (k + 1) * y (k + 1 + 1) - y (k + 1) * x (k + 1 + 1)) * -x 0 = (x 0 * y (k + 1 + 1) - y 0 * x (k + 1 + 1)) * -x (k + 1) := by
        generalize x 0 = a; generalize y 0 = b; generalize x (k + 1) = c; generalize y (k + 1) = d; generalize x (k + 1 + 1) = e; generalize y (k + 1 + 1) = f
        simp only [Int.sub_mul, Int.mul_neg]
        have q1 : b * c * e = b * e * c := by rw [Int.mul_assoc, Int.mul_comm c e, ← Int.mul_assoc]
        have q2 : c * f * a = a * f * c := by rw [Int.mul_comm c f, Int.mul_assoc, Int.mul_comm c a, ← Int.mul_assoc, Int.mul_comm f a]
        have q3 : a * d * e = d * e * a := by rw [Int.mul_assoc, Int.mul_comm]
        omega
      rw [Int.add_comm] at e
      rcases Int.lt_or_le 0 (x 0 * y (k + 1 + 1) - y 0 * x (k + 1 + 1)) with h | h
      · exact h
      · exfalso
        have := Int.mul_nonneg (show 0 ≤ -(x 0 * y (k + 1 + 1) - y 0 * x (k + 1 + 1)) by omega) (show 0 ≤ -x (k + 1) by have := hall (k + 1); omega)
        rw [Int.neg_mul] at this
        omega
  obtain ⟨m, rfl⟩ : ∃ m, n = m + 1 := ⟨n - 1, by omega⟩
  have := hstep m
  rw [hp.1, hp.2, Int.mul_comm (y 0)] at this
  omega
end Ne
end Go.Proofs.Ytlikmlhlfbdchaa
/- nest, the reference: Farthest of outlines that lie anywhere, ahead, beside. -/
namespace Go.Proofs.Ytlikmlhlfbdchaa
open Go.RowKit Go.Shelf
namespace Ne
theorem val_w {p : Geo.XY} (hp : Bd p) {u v : Int} (u1 : -100000 ≤ u) (u2 : u ≤ 100000) (v1 : -100000 ≤ v) (v2 : v ≤ 100000) :
    (-100000000000 ≤ u * p.1 ∧ u * p.1 ≤ 100000000000) ∧ (-100000000000 ≤ v * p.2 ∧ v * p.2 ≤ 100000000000) := by
  obtain ⟨a1, a2, a3, a4⟩ := hp
  have := mul_bd (a := u) (b := p.1) (A := 100000) (B := 1000000) (by omega) (by omega) (by omega) (by omega)
  have := mul_bd (a := v) (b := p.2) (A := 100000) (B := 1000000) (by omega) (by omega) (by omega) (by omega)
  omega
theorem rchK_w {l : List Geo.XY} (h : AllBd l) (h0 : 0 < l.length) {u v : Int} (u1 : -100000 ≤ u) (u2 : u ≤ 100000) (v1 : -100000 ≤ v) (v2 : v ≤ 100000) (k : Nat) (hk : k ≤ l.length) : -200000000000 ≤ rchK l u v k ∧ rchK l u v k ≤ 200000000000 := by
  induction k with
  | zero => have := val_w (h 0 h0) u1 u2 v1 v2; rw [rchK]; omega
  | succ k ih => have := val_w (h k (by omega)) u1 u2 v1 v2; have := ih (by omega); rw [rchK]; split <;> omega
/-- Farthest is the greatest number -/
theorem rchK_hi (l : List Geo.XY) (u v : Int) (k : Nat) : rchK l u v (k + 1) = hi (u, v) l k := by
  induction k with
  | zero => rw [rchK, rchK, if_neg (by omega)]; rfl
  | succ k ih => rw [rchK, ih]; rfl
theorem rch_hi1 (l : List Geo.XY) (u v : Int) (h0 : 0 < l.length) : rchK l u v l.length = hi1 (u, v) l := by
  obtain ⟨m, hm⟩ : ∃ m, l.length = m + 1 := ⟨l.length - 1, by omega⟩
  unfold hi1
  rw [hm, rchK_hi]; rfl
theorem rch_lo1 (l : List Geo.XY) (u v : Int) (h0 : 0 < l.length) : -rchK l (-u) (-v) l.length = lo1 (u, v) l := by
  rw [rch_hi1 l _ _ h0]
  unfold hi1 lo1
  have := hi_neg (u, v) l (l.length - 1)
  simp only at this
  omega
end Ne

set_option maxHeartbeats 1000000 in
theorem farthest_w (A : Option Addr) (l : List Geo.XY) (c : Nat) (u v : Int) (w : World) (hr : Pts w A l) (h0 : 0 < l.length) (hl : l.length ≤ 64) (hin : Ne.AllBd l) (u1 : -100000 ≤ u) (u2 : u ≤ 100000) (v1 : -100000 ≤ v) (v2 : v ≤ 100000) :
    Calls Try.prog 129 #[.slice A l.length c, .int .i64 u, .int .i64 v] w fun e w' => e = .returned (.int .i64 (rchK l u v l.length)) ∧ Below w.heap.size w w' := by
  have HIN := Lib.hid hin
  clear hin
  rcases hr with hr | ⟨b, off, rfl, hb, hc⟩
  · rw [hr] at h0; simp at h0
  have HC := Lib.hid hc
  have c1 : w.cell? ⟨b, off, none⟩ = some (.int .i64 (Geo.X l 0).1) := by have := (hc 0 h0).1; rwa [Nat.zero_mul, Nat.add_zero] at this
  have c2 : w.cell? ⟨b, off + 1, none⟩ = some (.int .i64 (Geo.X l 0).2) := by have := (hc 0 h0).2; rwa [Nat.zero_mul, Nat.add_zero] at this
  clear hc
  obtain ⟨⟨m1, m2⟩, m3, m4⟩ := Ne.val_w (HIN.out 0 h0) u1 u2 v1 v2
  have e1 : IntKind.i64.wrap (u * (Geo.X l 0).1) = u * (Geo.X l 0).1 := IntWalk.i64_in _ (by omega)
  have e2 : IntKind.i64.wrap (v * (Geo.X l 0).2) = v * (Geo.X l 0).2 := IntWalk.i64_in _ (by clear e1; omega)
  have e3 : IntKind.i64.wrap (u * (Geo.X l 0).1 + v * (Geo.X l 0).2) = u * (Geo.X l 0).1 + v * (Geo.X l 0).2 := IntWalk.i64_in _ (by clear e1 e2; omega)
  have e4 : (0 : Int) < (l.length : Int) := by clear e1 e2 e3; omega
  have e5 : (1 : Int) ≤ (l.length : Int) := by clear e1 e2 e3; omega
  have e6 : ¬ l = [] := by intro h; rw [h] at h0; simp at h0
  go_enter Try.func129, Try.ntmps129
  go_wp2
  have f1 : ∀ s : Ext w, s.w.cell? ⟨b, off, none⟩ = some (.int .i64 (Geo.X l 0).1) := fun s => s.cell c1
  have f2 : ∀ s : Ext w, s.w.cell? ⟨b, off + 1, none⟩ = some (.int .i64 (Geo.X l 0).2) := fun s => s.cell c2
  refine wp_region_ext (by kernel_rfl) (by kernel_rfl) ?_
  repeat (go_big_quiet_step (fail))
  refine wpQuiet_nil ?_
  rintro _ ⟨s, rfl⟩
  clear f1 f2 e1 e2 e3 c1 c2
  have hBs := s.h
  go_wp2
  go_loopw [7, 25] (fun r i wr => ∃ k : Nat, k ≤ l.length ∧ i = .int .i64 k ∧ r = .int .i64 (rchK l u v k) ∧ Below w.heap.size w wr) (fun _ i _ => l.length - (intOf i).toNat)
  case atStart => exact ⟨0, Nat.zero_le _, rfl, rfl, hBs⟩
  case round =>
    obtain ⟨k, hk, rfl, rfl, hB⟩ := hrel
    by_cases hlt : k < l.length
    · have c1 : wr.cell? ⟨b, off + k * 2, none⟩ = some (.int .i64 (Geo.X l k).1) := (hB.cell (p := ⟨b, off + k * 2, none⟩) hb).trans (HC.out k hlt).1
      have c2 : wr.cell? ⟨b, off + k * 2 + 1, none⟩ = some (.int .i64 (Geo.X l k).2) := (hB.cell (p := ⟨b, off + k * 2 + 1, none⟩) hb).trans (HC.out k hlt).2
      obtain ⟨⟨m1, m2⟩, m3, m4⟩ := Ne.val_w (HIN.out k hlt) u1 u2 v1 v2
      obtain ⟨m5, m6⟩ := Ne.rchK_w HIN.out h0 u1 u2 v1 v2 k (by omega)
      go_wp2
      go_roundw
      case rel => exact ⟨k + 1, by omega, by go_num, rfl, hB.alloc hB.size _⟩
      case measure => simp [intOf]; omega
    · obtain rfl : k = l.length := by omega
      go_wp2
      go_ret
      exact ⟨rfl, hB⟩

set_option maxRecDepth 100000 in
set_option maxHeartbeats 1000000 in
theorem ahead_b (A B : Option Addr) (o p : List Geo.XY) (c c' : Nat) (g u v : Int) (h0 : 0 < o.length) (hl : o.length ≤ 64) (k0 : 0 < p.length) (kl : p.length ≤ 64)
    (ho : Ne.AllBd o) (hp : Ne.AllBd p) (u1 : -100000 ≤ u) (u2 : u ≤ 100000) (v1 : -100000 ≤ v) (v2 : v ≤ 100000) (hg : 0 ≤ g) (hg' : g ≤ 2000)
    (r : Bool) (hr : Ne.enB (Ne.lo1 (u, v) o - Ne.hi1 (u, v) p) g (u * u + v * v) = r) (w : World) (hA : Pts w A o) (hB : Pts w B p) :
    Calls Try.prog 114 #[.slice A o.length c, .slice B p.length c', .int .i64 g, .int .i64 u, .int .i64 v] w fun e w' => e = .returned (.bool r) ∧ Below w.heap.size w w' := by
  have r1 := Ne.rchK_w ho h0 (u := -u) (v := -v) (by omega) (by omega) (by omega) (by omega) o.length (Nat.le_refl _)
  have r2 := Ne.rchK_w hp k0 u1 u2 v1 v2 p.length (Nat.le_refl _)
  have HR : Hid (Ne.enB (-rchK o (-u) (-v) o.length - rchK p u v p.length) g (u * u + v * v) = r) := Lib.hid (by rw [Ne.rch_lo1 _ _ _ h0, Ne.rch_hi1 _ _ _ k0]; exact hr)
  obtain ⟨x, hx⟩ : ∃ x, rchK o (-u) (-v) o.length = x := ⟨_, rfl⟩
  obtain ⟨y, hy⟩ : ∃ y, rchK p u v p.length = y := ⟨_, rfl⟩
  rw [hx] at r1; rw [hy] at r2
  have HX : Hid (∀ w1, Pts w1 A o → Calls Try.prog 129 #[.slice A o.length c, .int .i64 (-u), .int .i64 (-v)] w1 fun e w' => e = .returned (.int .i64 x) ∧ Below w1.heap.size w1 w') :=
    Lib.hid fun w1 h => by rw [← hx]; exact farthest_w A o c (-u) (-v) w1 h h0 hl ho (by omega) (by omega) (by omega) (by omega)
  have HY : Hid (∀ w1, Pts w1 B p → Calls Try.prog 129 #[.slice B p.length c', .int .i64 u, .int .i64 v] w1 fun e w' => e = .returned (.int .i64 y) ∧ Below w1.heap.size w1 w') :=
    Lib.hid fun w1 h => by rw [← hy]; exact farthest_w B p c' u v w1 h k0 kl hp u1 u2 v1 v2
  rw [hx, hy] at HR
  have HA := Lib.hid hA
  have HB := Lib.hid hB
  have m1 := (mul_bd (a := u) (b := u) (A := 100000) (B := 100000) (by omega) (by omega) (by omega) (by omega)).2
  have m2 := (mul_bd (a := v) (b := v) (A := 100000) (B := 100000) (by omega) (by omega) (by omega) (by omega)).2
  have m3 := Ne.sq_nn u
  have m4 := Ne.sq_nn v
  clear hr hx hy hA hB ho hp
  go_enter Try.func114, Try.ntmps114
  go_wp2_with fail
  refine (HX.out _ HA.out).mono ?_
  rintro e w1 ⟨rfl, b1⟩
  go_wp2_with fail
  refine (HY.out _ (HB.out.below b1)).mono ?_
  rintro e w2 ⟨rfl, b2⟩
  have hb2 := b1.trans (b2.mono b1.size)
  go_wp2_with fail
  refine (enough_b _ _ _ (by omega) (by omega) hg hg' (by omega) (by omega) r HR.out _).mono ?_
  rintro e w3 ⟨rfl, b3⟩
  go_wp2
  go_ret
  exact ⟨rfl, hb2.trans (b3.mono hb2.size)⟩
end Go.Proofs.Ytlikmlhlfbdchaa
/- nest, the reference: beside. -/
namespace Go.Proofs.Ytlikmlhlfbdchaa
open Go.RowKit Go.Shelf
namespace Ne
theorem en_mono {x y g n : Int} (h : x ≤ y) (he : enB x g n = true) : enB y g n = true := by
  unfold enB at he ⊢
  simp only [decide_eq_true_eq] at he ⊢
  exact ⟨by omega, Int.le_trans he.2 (Int.mul_le_mul h h he.1 (by omega))⟩
theorem en_btw (o p : List Geo.XY) (u v g : Int) : farB (btw o p (u, v)) g (u, v) = (enB (lo1 (u, v) o - hi1 (u, v) p) g (u * u + v * v) || enB (lo1 (u, v) p - hi1 (u, v) o) g (u * u + v * v)) := by
  rw [farB_en]
  simp only
  unfold btw
  generalize lo1 (u, v) o - hi1 (u, v) p = a
  generalize lo1 (u, v) p - hi1 (u, v) o = b
  by_cases h : a < b
  · rw [if_pos h]
    cases ha : enB a g (u * u + v * v) with
    | false => simp
    | true => rw [en_mono (by omega) ha]; rfl
  · rw [if_neg h]
    cases hb : enB b g (u * u + v * v) with
    | false => simp
    | true => rw [en_mono (by omega) hb]; rfl
end Ne

set_option maxRecDepth 100000 in
set_option maxHeartbeats 1000000 in
theorem beside_b (A B : Option Addr) (o p : List Geo.XY) (c c' : Nat) (g u v : Int) (h0 : 0 < o.length) (hl : o.length ≤ 64) (k0 : 0 < p.length) (kl : p.length ≤ 64)
    (ho : Ne.AllBd o) (hp : Ne.AllBd p) (u1 : -100000 ≤ u) (u2 : u ≤ 100000) (v1 : -100000 ≤ v) (v2 : v ≤ 100000) (hg : 0 ≤ g) (hg' : g ≤ 2000)
    (r : Bool) (hr : Ne.farB (Ne.btw o p (u, v)) g (u, v) = r) (w : World) (hA : Pts w A o) (hB : Pts w B p) :
    Calls Try.prog 91 #[.slice A o.length c, .slice B p.length c', .int .i64 g, .int .i64 u, .int .i64 v] w fun e w' => e = .returned (.bool r) ∧ Below w.heap.size w w' := by
  rw [Ne.en_btw] at hr
  obtain ⟨x, hx⟩ : ∃ x, Ne.enB (Ne.lo1 (u, v) o - Ne.hi1 (u, v) p) g (u * u + v * v) = x := ⟨_, rfl⟩
  obtain ⟨y, hy⟩ : ∃ y, Ne.enB (Ne.lo1 (u, v) p - Ne.hi1 (u, v) o) g (u * u + v * v) = y := ⟨_, rfl⟩
  rw [hx, hy] at hr
  have HX : Hid (∀ w1, Pts w1 A o → Pts w1 B p → Calls Try.prog 114 #[.slice A o.length c, .slice B p.length c', .int .i64 g, .int .i64 u, .int .i64 v] w1 fun e w' => e = .returned (.bool x) ∧ Below w1.heap.size w1 w') :=
    Lib.hid fun w1 h h' => ahead_b A B o p c c' g u v h0 hl k0 kl ho hp u1 u2 v1 v2 hg hg' x hx w1 h h'
  have HY : Hid (∀ w1, Pts w1 A o → Pts w1 B p → Calls Try.prog 114 #[.slice B p.length c', .slice A o.length c, .int .i64 g, .int .i64 u, .int .i64 v] w1 fun e w' => e = .returned (.bool y) ∧ Below w1.heap.size w1 w') :=
    Lib.hid fun w1 h h' => ahead_b B A p o c' c g u v k0 kl h0 hl hp ho u1 u2 v1 v2 hg hg' y hy w1 h' h
  have HA := Lib.hid hA
  have HB := Lib.hid hB
  clear hx hy hA hB ho hp
  subst hr
  cases x with
  | true =>
    go_enter Try.func91, Try.ntmps91
    go_wp2_with fail
    refine (HX.out _ HA.out HB.out).mono ?_
    rintro e w1 ⟨rfl, b1⟩
    go_wp2
    go_ret
    exact ⟨rfl, b1⟩
  | false =>
    go_enter Try.func91, Try.ntmps91
    go_wp2_with fail
    refine (HX.out _ HA.out HB.out).mono ?_
    rintro e w1 ⟨rfl, b1⟩
    go_wp2_with fail
    refine (HY.out _ (HA.out.below b1) (HB.out.below b1)).mono ?_
    rintro e w2 ⟨rfl, b2⟩
    go_wp2
    go_ret
    exact ⟨by simp, b1.trans (b2.mono b1.size)⟩
end Go.Proofs.Ytlikmlhlfbdchaa
/- nest, the reference: apart. -/
namespace Go.Proofs.Ytlikmlhlfbdchaa
open Go.RowKit Go.Shelf
namespace Ne
/-- the direction across side k of a list of corners -/
def sdir (l : List Geo.XY) (k : Nat) : Geo.XY := ((Geo.X l ((k + 1) % l.length)).2 - (Geo.X l k).2, (Geo.X l k).1 - (Geo.X l ((k + 1) % l.length)).1)
def bes (o p : List Geo.XY) (g : Int) (d : Geo.XY) : Bool := farB (btw o p d) g d
def besAny (o p : List Geo.XY) (g : Int) (l : List Geo.XY) : Nat → Bool
  | 0 => false
  | k + 1 => besAny o p g l k || bes o p g (sdir l k)
/-- two outlines are at least g apart -/
def apB (o p : List Geo.XY) (g : Int) : Bool := (bes o p g (1, 0) || bes o p g (0, 1)) || (besAny o p g o o.length || besAny o p g p p.length)
theorem besAny_mono {o p : List Geo.XY} {g : Int} {l : List Geo.XY} {m k : Nat} (h : m ≤ k) (hm : besAny o p g l m = true) : besAny o p g l k = true := by
  induction k with
  | zero => obtain rfl : m = 0 := by omega
            exact hm
  | succ k ih =>
    by_cases he : m = k + 1
    · subst he; exact hm
    · unfold besAny; rw [ih (by omega)]; rfl
def AllDir (l : List Geo.XY) : Prop := ∀ k, k < l.length → (-100000 ≤ (sdir l k).1 ∧ (sdir l k).1 ≤ 100000) ∧ (-100000 ≤ (sdir l k).2 ∧ (sdir l k).2 ≤ 100000)
end Ne

set_option maxRecDepth 100000 in
set_option maxHeartbeats 2000000 in
theorem rapart_b (A B : Option Addr) (o p : List Geo.XY) (c c' : Nat) (g : Int) (h0 : 0 < o.length) (hl : o.length ≤ 64) (k0 : 0 < p.length) (kl : p.length ≤ 64)
    (ho : Ne.AllBd o) (hp : Ne.AllBd p) (hod : Ne.AllDir o) (hpd : Ne.AllDir p) (hg : 0 ≤ g) (hg' : g ≤ 2000)
    (r : Bool) (hr : Ne.apB o p g = r) (w : World) (hA : Pts w A o) (hB : Pts w B p) :
    Calls Try.prog 52 #[.slice A o.length c, .slice B p.length c', .int .i64 g] w fun e w' => e = .returned (.bool r) ∧ Below w.heap.size w w' := by
  have HS : Hid (∀ (u v : Int) (x : Bool) (w1 : World), -100000 ≤ u → u ≤ 100000 → -100000 ≤ v → v ≤ 100000 → Ne.bes o p g (u, v) = x → Below w.heap.size w w1 → Calls Try.prog 91 #[.slice A o.length c, .slice B p.length c', .int .i64 g, .int .i64 u, .int .i64 v] w1 fun e w' => e = .returned (.bool x) ∧ Below w1.heap.size w1 w') :=
    Lib.hid fun u v x w1 u1 u2 v1 v2 hx hb => beside_b A B o p c c' g u v h0 hl k0 kl ho hp u1 u2 v1 v2 hg hg' x hx w1 (hA.below hb) (hB.below hb)
  obtain ⟨x1, hx1⟩ : ∃ x, Ne.bes o p g (1, 0) = x := ⟨_, rfl⟩
  obtain ⟨x2, hx2⟩ : ∃ x, Ne.bes o p g (0, 1) = x := ⟨_, rfl⟩
  have HR : Hid (((x1 || x2) || (Ne.besAny o p g o o.length || Ne.besAny o p g p p.length)) = r) := Lib.hid (by rw [← hr, ← hx1, ← hx2]; rfl)
  have H1 := Lib.hid hx1
  have H2 := Lib.hid hx2
  have HA := Lib.hid hA
  have HB := Lib.hid hB
  have HO := Lib.hid ho
  have HP := Lib.hid hp
  have HOD := Lib.hid hod
  have HPD := Lib.hid hpd
  clear hr hx1 hx2 hA hB ho hp hod hpd
  cases x1 with
  | true =>
    have HV : Hid (r = true) := Lib.hid (by rw [← HR.out]; simp)
    go_enter Try.func52, Try.ntmps52
    go_wp2_with fail
    refine (HS.out _ _ _ _ (by omega) (by omega) (by omega) (by omega) H1.out (Below.refl _ _)).mono ?_
    rintro e w1 ⟨rfl, b1⟩
    go_wp2
    go_ret
    exact ⟨by rw [HV.out]; rfl, b1⟩
  | false =>
    cases x2 with
    | true =>
      have HV : Hid (r = true) := Lib.hid (by rw [← HR.out]; simp)
      go_enter Try.func52, Try.ntmps52
      go_wp2_with fail
      refine (HS.out _ _ _ _ (by omega) (by omega) (by omega) (by omega) H1.out (Below.refl _ _)).mono ?_
      rintro e w1 ⟨rfl, b1⟩
      go_wp2_with fail
      refine (HS.out _ _ _ _ (by omega) (by omega) (by omega) (by omega) H2.out b1).mono ?_
      rintro e w2 ⟨rfl, b2⟩
      have hb2 := b1.trans (b2.mono b1.size)
      go_wp2
      go_ret
      exact ⟨by rw [HV.out]; rfl, hb2⟩
    | false =>
      have HV : Hid ((Ne.besAny o p g o o.length || Ne.besAny o p g p p.length) = r) := Lib.hid (by rw [← HR.out]; simp)
      clear HR
      go_enter Try.func52, Try.ntmps52
      go_wp2_with fail
      refine (HS.out _ _ _ _ (by omega) (by omega) (by omega) (by omega) H1.out (Below.refl _ _)).mono ?_
      rintro e w1 ⟨rfl, b1⟩
      go_wp2_with fail
      refine (HS.out _ _ _ _ (by omega) (by omega) (by omega) (by omega) H2.out b1).mono ?_
      rintro e w2 ⟨rfl, b2⟩
      have hb2 := b1.trans (b2.mono b1.size)
      clear b1 b2
      go_wp2
      have bG := Blk.new w2 22 #[.slice A o.length c, .slice B p.length c']
      have hb3 := hb2.alloc hb2.size (.cells #[.slice A o.length c, .slice B p.length c'] 22)
      have hs3 : (w2.alloc (.cells #[.slice A o.length c, .slice B p.length c'] 22)).heap.size = w2.heap.size + 1 := by simp
      generalize w2.alloc (.cells #[.slice A o.length c, .slice B p.length c'] 22) = w3 at *
      go_loopw [26] (fun i wr => ∃ k : Nat, k ≤ 2 ∧ i = .int .i64 k ∧ (1 ≤ k → Ne.besAny o p g o o.length = false) ∧ (2 ≤ k → Ne.besAny o p g p p.length = false) ∧ Below w3.heap.size w3 wr) (fun i _ => 2 - (intOf i).toNat)
      case atStart => exact ⟨0, by omega, rfl, fun h => absurd h (by omega), fun h => absurd h (by omega), Below.refl _ _⟩
      case round =>
        obtain ⟨k, hk, rfl, hk1, hk2, hB3⟩ := hrel
        obtain ⟨wo, rfl⟩ : ∃ wo, wo = wr := ⟨_, rfl⟩
        have HK1 := Lib.hid hk1
        have HK2 := Lib.hid hk2
        clear hk1 hk2
        have bG1 := bG.below hB3 bG.lt
        by_cases hlt : k < 2
        · obtain ⟨L, AL, cL, hL⟩ : ∃ (L : List Geo.XY) (AL : Option Addr) (cL : Nat), (k = 0 ∧ L = o ∧ AL = A ∧ cL = c) ∨ (k = 1 ∧ L = p ∧ AL = B ∧ cL = c') := by
            by_cases h : k = 0
            · exact ⟨o, A, c, .inl ⟨h, rfl, rfl, rfl⟩⟩
            · exact ⟨p, B, c', .inr ⟨by omega, rfl, rfl, rfl⟩⟩
          have hck : wo.cell? ⟨w2.heap.size, k, none⟩ = some (.slice AL L.length cL) := by
            rw [bG1.cell]
            rcases hL with ⟨rfl, rfl, rfl, rfl⟩ | ⟨rfl, rfl, rfl, rfl⟩ <;> rfl
          have hLl : 0 < L.length ∧ L.length ≤ 64 := by rcases hL with ⟨_, rfl, _, _⟩ | ⟨_, rfl, _, _⟩ <;> omega
          obtain ⟨hL0, hL64⟩ := hLl
          have HL : Hid (Ne.AllBd L ∧ Ne.AllDir L ∧ Pts w AL L) := Lib.hid (by
            rcases hL with ⟨_, rfl, rfl, _⟩ | ⟨_, rfl, rfl, _⟩
            · exact ⟨HO.out, HOD.out, HA.out⟩
            · exact ⟨HP.out, HPD.out, HB.out⟩)
          have HY : Hid (Ne.besAny o p g L L.length = true → r = true) := Lib.hid (fun h => by
            rw [← HV.out]
            rcases hL with ⟨_, rfl, _, _⟩ | ⟨_, rfl, _, _⟩ <;> rw [h] <;> simp)
          have HN : Hid (Ne.besAny o p g L L.length = false → (1 ≤ k + 1 → Ne.besAny o p g o o.length = false) ∧ (2 ≤ k + 1 → Ne.besAny o p g p p.length = false)) := Lib.hid (fun h => by
            rcases hL with ⟨rfl, rfl, _, _⟩ | ⟨rfl, rfl, _, _⟩
            · exact ⟨fun _ => h, fun h' => absurd h' (by omega)⟩
            · exact ⟨fun _ => HK1.out (by omega), fun _ => h⟩)
          have HLK := Lib.hid hL
          clear hL bG1
          have hbr := hb3.trans (hB3.mono hb3.size)
          obtain ⟨b, off, rfl, hbb, hcc⟩ := pts_open (HL.out.2.2.below hbr) hL0
          have hltd : decide ((k : Int) < 2) = true := by simp; omega
          go_wp2
          have HCC := Lib.hid hcc
          clear hcc hck
          go_loopw [32] (fun i wr => ∃ m : Nat, m ≤ L.length ∧ i = .int .i64 m ∧ Ne.besAny o p g L m = false ∧ Below wo.heap.size wo wr) (fun i _ => L.length - (intOf i).toNat)
          case atStart => exact ⟨0, Nat.zero_le _, rfl, rfl, Below.refl _ _⟩
          case round =>
            obtain ⟨m, hm, rfl, hbm, hBm⟩ := hrel
            have HBM := Lib.hid hbm
            clear hbm
            by_cases hml : m < L.length
            · have c1 : wr.cell? ⟨b, off + m * 2, none⟩ = some (.int .i64 (Geo.X L m).1) := (hBm.cell (p := ⟨b, off + m * 2, none⟩) hbb).trans (HCC.out m hml).1
              have c2 : wr.cell? ⟨b, off + m * 2 + 1, none⟩ = some (.int .i64 (Geo.X L m).2) := (hBm.cell (p := ⟨b, off + m * 2 + 1, none⟩) hbb).trans (HCC.out m hml).2
              obtain ⟨j, hj⟩ : ∃ j, j = (m + 1) % L.length := ⟨_, rfl⟩
              have hjl : j < L.length := by rw [hj]; exact Nat.mod_lt _ hL0
              obtain ⟨⟨v1, v2⟩, v3, v4⟩ := HL.out.2.1 m hml
              obtain ⟨y1, y2, y3, y4⟩ := HL.out.1 m hml
              obtain ⟨z1, z2, z3, z4⟩ := HL.out.1 j hjl
              obtain ⟨x, hx⟩ : ∃ x, Ne.bes o p g (Ne.sdir L m) = x := ⟨_, rfl⟩
              have HX : Hid (Ne.besAny o p g L (m + 1) = x) := Lib.hid (by unfold Ne.besAny; rw [HBM.out, hx]; rfl)
              unfold Ne.sdir at v1 v2 v3 v4 hx
              rw [← hj] at v1 v2 v3 v4 hx
              simp only at v1 v2 v3 v4
              have HXX := Lib.hid hx
              clear hx
              have e3 : ((m : Int) + 1) % (L.length : Int) = (j : Int) := by rw [hj]; simp
              have e2 : ((m : Int) + 1).tmod (L.length : Int) = (j : Int) := by rw [Int.tmod_eq_emod_of_nonneg (show (0 : Int) ≤ (m : Int) + 1 by omega)]; exact e3
              have e4 : ¬ (L.length : Int) = 0 := by clear e2 e3; omega
              have e6 : ¬ L.length = 0 := by omega
              have e7 : ¬ L = [] := by intro h; rw [h] at hL0; simp at hL0
              have HJ := Lib.hid hj
              clear hj
              obtain ⟨W4, hW4⟩ : ∃ W4, W4 = wr.alloc (.cells #[.int .i64 (Geo.X L m).1, .int .i64 (Geo.X L m).2] 76) := ⟨_, rfl⟩
              have hB4 : Below wo.heap.size wo W4 := by rw [hW4]; exact hBm.alloc hBm.size _
              have hs4 : W4.heap.size = wr.heap.size + 1 := by rw [hW4]; simp
              have b4 : Blk W4 wr.heap.size 76 #[.int .i64 (Geo.X L m).1, .int .i64 (Geo.X L m).2] := by rw [hW4]; exact Blk.new _ _ _
              have f1 : W4.cell? ⟨b, off + j * 2, none⟩ = some (.int .i64 (Geo.X L j).1) := (hB4.cell (p := ⟨b, off + j * 2, none⟩) hbb).trans (HCC.out j hjl).1
              have f2 : W4.cell? ⟨b, off + j * 2 + 1, none⟩ = some (.int .i64 (Geo.X L j).2) := (hB4.cell (p := ⟨b, off + j * 2 + 1, none⟩) hbb).trans (HCC.out j hjl).2
              obtain ⟨W5, hW5⟩ : ∃ W5, W5 = W4.alloc (.cells #[.int .i64 (Geo.X L j).1, .int .i64 (Geo.X L j).2] 76) := ⟨_, rfl⟩
              have hB5 : Below wo.heap.size wo W5 := by rw [hW5]; exact hB4.alloc hB4.size _
              have b5 : Blk W5 wr.heap.size 76 #[.int .i64 (Geo.X L m).1, .int .i64 (Geo.X L m).2] := by rw [hW5]; exact b4.alloc _
              have b6 : Blk W5 (wr.heap.size + 1) 76 #[.int .i64 (Geo.X L j).1, .int .i64 (Geo.X L j).2] := by rw [hW5, ← hs4]; exact Blk.new _ _ _
              have q1 := b5.cell 0
              have q2 := b5.cell 1
              have q3 := b6.cell 0
              have q4 := b6.cell 1
              simp only [List.getElem?_toArray, List.getElem?_cons_zero, List.getElem?_cons_succ] at q1 q2 q3 q4
              have HB5 := Lib.hid (hbr.trans (hB5.mono hbr.size))
              rw [hW4] at f1 f2
              have hWW : (wr.alloc (.cells #[.int .i64 (Geo.X L m).1, .int .i64 (Geo.X L m).2] 76)).alloc (.cells #[.int .i64 (Geo.X L j).1, .int .i64 (Geo.X L j).2] 76) = W5 := by rw [hW5, hW4]
              clear hW4 hW5 b4 b5 b6 hB4 hs4
              go_wp2_with fail
              refine (HS.out _ _ _ _ v1 v2 v3 v4 HXX.out HB5.out).mono ?_
              rintro e w6 ⟨rfl, b6⟩
              have hb6 := hB5.trans (b6.mono hB5.size)
              cases x with
              | true =>
                have HT : Hid (r = true) := Lib.hid (HY.out (Ne.besAny_mono (by omega) HX.out))
                go_wp2
                go_ret
                exact ⟨by rw [HT.out]; rfl, hbr.trans (hb6.mono hbr.size)⟩
              | false =>
                go_wp2
                go_roundw
                case rel => exact ⟨m + 1, by omega, by go_num, HX.out, hb6⟩
                case measure => simp [intOf]; omega
            · obtain rfl : m = L.length := by omega
              go_wp2
              go_roundw
              case rel => exact ⟨k + 1, by omega, by go_num, (HN.out HBM.out).1, (HN.out HBM.out).2, hB3.trans (hBm.mono hB3.size)⟩
              case measure => simp [intOf]; omega
        · obtain rfl : k = 2 := by omega
          go_wp2
          go_ret
          exact ⟨by rw [← HV.out, HK1.out (by omega), HK2.out (by omega)]; rfl, hb3.trans (hB3.mono hb3.size)⟩
end Go.Proofs.Ytlikmlhlfbdchaa
