/- OrderConverts. -/
import Derived.Test.YtdihnbjmeppbcaaDoorWF
namespace Go.Proofs.YtdihnbjmeppbcaaDoor
open Go.RowKit Go.Shelf

theorem ldm_mk {ops : Array Oper} {rest : List Oper} {o : Oper} {a : Act} {w : World} {Q : Exit → Act → World → Prop} {b off : Nat} {A : Option Addr} {l : List Pl.Pr} {c : Nat} {B : Option Addr} {r : List Pl.Rt} {j : Nat} (hr : w.rangeAt b off (mkL A l c B r j)) (hw : Region.wanted o (yielded ops a.tmps) = true) (x : Operand) (ho : o.op = .load 25 x)
    (hx : a.eval x = .pointer (some ⟨b, off, none⟩)) (h : wpList Tryd.prog ops Q rest (a.put o.dst (.agg (mkA A l c B r j))) w) : wpList Tryd.prog ops Q (o :: rest) a w :=
  wpList_wanted hw fun _ hK => wp_load_mid 25 x ho b off hx (mkL A l c B r j) _ hr Tryd.underlying25 rfl infoMk (hK _ _ h)
/-- the form of zeros -/
abbrev zFm : Pl.Fm := ⟨⟨#[]⟩, 0, ⟨#[]⟩, [], none, 0⟩
theorem zFm_in (w : World) : FmIn w zFm := ⟨.inl rfl, Nat.zero_le _, Nat.zero_le _, by simp, Nat.zero_le _, Nat.zero_le _⟩

set_option maxRecDepth 100000 in
set_option maxHeartbeats 8000000 in
theorem law_converts (A : Option Addr) (l : List Pl.Pr) (c : Nat) (B : Option Addr) (r : List Pl.Rt) (j : Nat) (cur : ByteArray) (x y : Int) (w : World) (hP : PrsIn w A l c) (hR : RtsIn w B r j) (hc : cur.size ≤ maxLen) :
    Calls Tryd.prog 5 #[.agg (mkA A l c B r j), .string cur, .agg #[.int .i64 x, .int .i64 y]] w fun e w' => e = .returned (.bool true) ∧ Below w.heap.size w w' := by
  have c63 := max63 hc
  have hB0 := (Below.refl w.heap.size w).alloc (Nat.le_refl _) (.cells (mkA A l c B r j) 25)
  have hB := hB0.alloc (by simp) (.cells #[.int .i64 x, .int .i64 y] 42)
  have bM := (Blk.new w 25 (mkA A l c B r j)).alloc (.cells #[.int .i64 x, .int .i64 y] 42)
  have bY := Blk.new (w.alloc (.cells (mkA A l c B r j) 25)) 42 #[.int .i64 x, .int .i64 y]
  simp only [World.size_alloc] at bY
  have HC := Lib.hid sane_any
  have HW := Lib.hid (fun w' hb => wide_any A l c B r j zFm w' (hP.below (W' := w') hb) (hR.below hb) (zFm_in _))
  have hrl : r.length ≤ maxLen := Nat.le_trans hR.cap hR.top
  have H1 := Lib.hid (fun w' hb => Convert_b B r j _ rfl hrl hR.each cur hc x y w' (hR.rows.below (W' := w') hb))
  have H2 := Lib.hid (fun w' hb => rConvert_b B r j _ rfl hrl hR.each cur hc x y w' (hR.rows.below (W' := w') hb))
  generalize Pl.coV r cur x y = V at *
  generalize Pl.coE r cur x y = E at *
  generalize hWo : (w.alloc (.cells (mkA A l c B r j) 25)).alloc (.cells #[.int .i64 x, .int .i64 y] 42) = W at *
  have y0 := bY.cell 0
  have y1 := bY.cell 1
  have z0 := fun s : Ext W => s.cell (p := ⟨w.heap.size + 1, 0, none⟩) y0
  have z1 := fun s : Ext W => s.cell (p := ⟨w.heap.size + 1, 1, none⟩) y1
  have hMl := bM.lt
  have HM := Lib.hid bM
  clear hP hR hc bM bY hB0 hrl y0 y1
  go_enter Tryd.func5, Tryd.ntmps5
  go_wp2
  refine wp_region_ext (by kernel_rfl) (by kernel_rfl) ?_
  repeat (go_big_quiet_step (fail))
  refine wpQuiet_nil ?_
  rintro _ ⟨s, rfl⟩
  have hB1 := hB.trans (s.h.mono hB.size)
  have bM1 := HM.out.below s.h hMl
  generalize s.w = W1 at *
  clear s z0 z1 hB hWo HM
  have hr1 := bM1.range
  have hMl1 := bM1.lt
  go_wp2_with (refine ldm_mk hr1 rfl _ rfl rfl ?_)
  refine (HW.out _ hB1).mono ?_
  rintro e w2 ⟨⟨v, rfl⟩, hb2⟩
  have hB2 := hB1.trans (hb2.mono hB1.size)
  have bM2 := bM1.below hb2 hMl1
  have x1 := bM2.cell 1
  have hMl2 := bM2.lt
  clear hr1 hb2 bM1 HW
  cases v
  rotate_left
  · go_wp2_with fail
    refine (HC.out _).mono ?_
    rintro e w3 ⟨rfl, hb3⟩
    have hB3 := hB2.trans (hb3.mono hB2.size)
    go_wp2
    go_ret
    exact ⟨rfl, hB3⟩
  by_cases h40 : (40 : Int) < (cur.size : Int)
  · go_wp2_with fail
    refine (HC.out _).mono ?_
    rintro e w3 ⟨rfl, hb3⟩
    have hB3 := hB2.trans (hb3.mono hB2.size)
    go_wp2
    go_ret
    exact ⟨rfl, hB3⟩
  go_wp2_with fail
  refine (H1.out _ hB2).mono ?_
  rintro e w3 ⟨rfl, hb3⟩
  have hB3 := hB2.trans (hb3.mono hB2.size)
  have x1' := (bM2.below hb3 hMl2).cell 1
  clear x1 bM2 hb3 hB2
  go_wp2_with fail
  refine (H2.out _ hB3).mono ?_
  rintro e w4 ⟨rfl, hb4⟩
  have hB4 := hB3.trans (hb4.mono hB3.size)
  clear x1' hb4 hB3
  go_wp2_with fail
  refine (HC.out _).mono ?_
  rintro e w5 ⟨rfl, hb5⟩
  have hB5 := hB4.trans (hb5.mono hB4.size)
  go_wp2
  go_ret
  exact ⟨rfl, hB5⟩
end Go.Proofs.YtdihnbjmeppbcaaDoor
