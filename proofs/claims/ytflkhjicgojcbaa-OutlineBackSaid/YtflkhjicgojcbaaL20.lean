import Derived.Test.YtflkhjicgojcbaaL19
import Derived.Test.YtflkhjicgojcbaaL10
import Derived.Test.YtflkhjicgojcbaaL9
namespace Go.Proofs.Ytflkhjicgojcbaa
open Go.RowKit Go.Shelf

theorem area_r (A : Option Addr) (l : List Geo.XY) (n c : Nat) (d : Int) (e : l.length = n) (hv : validB l = true) (hd : Geo.areaK l l.length = d) (w : World) (hr : Pts w A l) :
    Calls Try.prog 27 #[.slice A n c] w fun e w' => e = .returned (.tuple #[.int .i64 d, .int .i64 0]) ∧ Below w.heap.size w w' := by
  subst e
  have := area_any A l c w hr
  rw [okOr_yes hv, hd] at this
  exact this
theorem around_r (A : Option Addr) (l : List Geo.XY) (n c : Nat) (a b : Int) (e : l.length = n) (hv : validB l = true) (ha : (lowK l l.length : Int) = a) (hb : (highK l l.length : Int) = b) (w : World) (hr : Pts w A l) :
    Calls Try.prog 47 #[.slice A n c] w fun e w' => e = .returned (.tuple #[.int .i64 a, .int .i64 b, .int .i64 0]) ∧ Below w.heap.size w w' := by
  subst e
  have := around_any A l c w hr
  rw [okOr3_yes hv, ha, hb] at this
  exact this

/-- the five measures -/
def mea (a b c d e : Int) : Value := .agg #[.int .i64 a, .int .i64 b, .int .i64 c, .int .i64 d, .int .i64 e]

set_option maxRecDepth 100000 in
set_option maxHeartbeats 4000000 in
theorem measures_r (A : Option Addr) (l : List Geo.XY) (n c : Nat) (x1 x2 x3 x4 x5 : Int) (e : l.length = n) (hv : validB l = true) (h1 : Geo.areaK l l.length = x1) (h2 : boxA l = x2) (h3 : boxB l = x3) (h4 : (lowK l l.length : Int) = x4) (h5 : (highK l l.length : Int) = x5) (w : World) (hr : Pts w A l) :
    Calls Try.prog 53 #[.slice A n c] w fun e w' => e = .returned (.tuple #[.agg #[.int .i64 x1, .int .i64 x2, .int .i64 x3, .int .i64 x4, .int .i64 x5], .bool true]) ∧ Below w.heap.size w w' := by
  have HR := Lib.hid hr
  have HE := Lib.hid e
  have HV := Lib.hid hv
  have H1 := Lib.hid h1
  have H2 := Lib.hid h2
  have H3 := Lib.hid h3
  have H4 := Lib.hid h4
  have H5 := Lib.hid h5
  clear hr e hv h1 h2 h3 h4 h5
  go_enter Try.func53, Try.ntmps53
  go_wp2_with fail
  have bR := Blk.new w 45 #[.int .i64 0, .int .i64 0, .int .i64 0, .int .i64 0, .int .i64 0]
  have hB0 := (Below.refl _ w).alloc (Nat.le_refl _) (.cells #[.int .i64 0, .int .i64 0, .int .i64 0, .int .i64 0, .int .i64 0] 45)
  generalize hw0 : w.alloc (.cells #[.int .i64 0, .int .i64 0, .int .i64 0, .int .i64 0, .int .i64 0] 45) = w0 at bR hB0 ⊢
  clear hw0
  refine (area_r A l n c x1 HE.out HV.out H1.out _ (HR.out.below hB0)).mono ?_
  rintro e w1 ⟨rfl, hb1⟩
  have hB1 := hB0.trans (hb1.mono hB0.size)
  replace bR := bR.below hb1 bR.lt
  go_wp2_with fail
  refine (dbox_r A l n c x2 x3 HE.out HV.out H2.out H3.out _ (HR.out.below hB1)).mono ?_
  rintro e w2 ⟨rfl, hb2⟩
  have hB2 := hB1.trans (hb2.mono hB1.size)
  replace bR := bR.below hb2 bR.lt
  go_wp2_with fail
  refine (around_r A l n c x4 x5 HE.out HV.out H4.out H5.out _ (HR.out.below hB2)).mono ?_
  rintro e w3 ⟨rfl, hb3⟩
  have hB3 := hB2.trans (hb3.mono hB2.size)
  replace bR := bR.below hb3 bR.lt
  have r0 := bR.cell 0
  have r1 := bR.cell 1
  have r2 := bR.cell 2
  have r3 := bR.cell 3
  have r4 := bR.cell 4
  have f0 := bR.frozen 0
  have f1 := bR.frozen 1
  have f2 := bR.frozen 2
  have f3 := bR.frozen 3
  have f4 := bR.frozen 4
  simp only [List.getElem?_toArray, List.getElem?_cons_zero, List.getElem?_cons_succ] at r0 r1 r2 r3 r4
  go_wp2
  refine bodyPost_ret (v := .tuple #[.agg #[.int .i64 x1, .int .i64 x2, .int .i64 x3, .int .i64 x4, .int .i64 x5], .bool true]) (by simp [results, Try.results53, go_sem, r0, r1, r2, r3, r4]) rfl ⟨rfl, ?_⟩
  exact ((((hB3.setCell (p := ⟨w.heap.size, 0, none⟩) (Nat.le_refl _) _).setCell (p := ⟨w.heap.size, 1, none⟩) (Nat.le_refl _) _).setCell (p := ⟨w.heap.size, 2, none⟩) (Nat.le_refl _) _).setCell (p := ⟨w.heap.size, 3, none⟩) (Nat.le_refl _) _).setCell (p := ⟨w.heap.size, 4, none⟩) (Nat.le_refl _) _
end Go.Proofs.Ytflkhjicgojcbaa
