/- The error of a size and a head. -/
import Derived.Test.YtghbipipehglfaaDoorA2
namespace Go.Proofs.YtghbipipehglfaaDoor
open Go.RowKit Go.Shelf

theorem cp_size {s : Pl.Sz} {h : Pl.Hd} (hs : Pl.vsz s = false) : Pl.cp s h = 31 := by unfold Pl.cp; rw [if_neg (by rw [hs]; simp)]
theorem cp_head {s : Pl.Sz} {h : Pl.Hd} (hs : Pl.vsz s = true) (hh : Pl.vh h = false) : Pl.cp s h = 30 := by unfold Pl.cp; rw [if_pos hs, if_neg (by rw [hh]; simp)]

theorem info24 : (Tryd.prog.info? 46).map (·.size) = some 17 := by kernel_rfl
theorem info26 : (Tryd.prog.info? 34).map (·.size) = some 6 := by kernel_rfl
theorem info22 : (Tryd.prog.info? 32).map (·.size) = some 5 := by kernel_rfl
/-- a size, a head, five numbers are read whole -/
theorem ld_size {ops : Array Oper} {rest : List Oper} {o : Oper} {a : Act} {w : World} {Q : Exit → Act → World → Prop} {s : Pl.Sz} {g : Nat} {t : TypeId} (b : Blk w g t (szA s)) (hgd : o.guard = none) (x : Operand) (ho : o.op = .load 46 x)
    (hx : a.eval x = .pointer (some ⟨g, 0, none⟩)) (h : wpList Tryd.prog ops Q rest (a.put o.dst (.agg (szA s))) w) : wpList Tryd.prog ops Q (o :: rest) a w :=
  wpList_load_row hgd 46 x ho g hx t (szA s) (0, 0) _ b Tryd.underlying46 rfl info24 h
theorem ld_head {ops : Array Oper} {rest : List Oper} {o : Oper} {a : Act} {w : World} {Q : Exit → Act → World → Prop} {s : Pl.Hd} {g : Nat} {t : TypeId} (b : Blk w g t (hdA s)) (hgd : o.guard = none) (x : Operand) (ho : o.op = .load 34 x)
    (hx : a.eval x = .pointer (some ⟨g, 0, none⟩)) (h : wpList Tryd.prog ops Q rest (a.put o.dst (.agg (hdA s))) w) : wpList Tryd.prog ops Q (o :: rest) a w :=
  wpList_load_row hgd 34 x ho g hx t (hdA s) (0, 0) _ b Tryd.underlying34 rfl info26 h
theorem ld_five {ops : Array Oper} {rest : List Oper} {o : Oper} {a : Act} {w : World} {Q : Exit → Act → World → Prop} {f : Nat → Int} {g : Nat} {t : TypeId} (b : Blk w g t (a5A f)) (hgd : o.guard = none) (x : Operand) (ho : o.op = .load 32 x)
    (hx : a.eval x = .pointer (some ⟨g, 0, none⟩)) (h : wpList Tryd.prog ops Q rest (a.put o.dst (.agg (a5A f))) w) : wpList Tryd.prog ops Q (o :: rest) a w :=
  wpList_load_row hgd 32 x ho g hx t (a5A f) (0, 0) _ b Tryd.underlying32 rfl info22 h

set_option maxRecDepth 100000 in
set_option maxHeartbeats 2000000 in
theorem checkpair_b (s : Pl.Sz) (h : Pl.Hd) (v : Int) (hv : Pl.cp s h = v) (w : World) :
    Calls Tryd.prog 96 #[.agg (szA s), .agg (hdA h)] w fun e w' => e = .returned (.int .i64 v) ∧ Below w.heap.size w w' := by
  have hB0 := ((Below.refl w.heap.size w).alloc (Nat.le_refl _) (.cells (szA s) 46)).alloc (by simp) (.cells (hdA h) 34)
  have bS := (Blk.new w 46 (szA s)).alloc (.cells (hdA h) 34)
  have bH := Blk.new (w.alloc (.cells (szA s) 46)) 34 (hdA h)
  rw [World.size_alloc] at bH
  have hbl := bH.lt
  cases hs : Pl.vsz s with
  | false =>
    have e31 := cp_size (h := h) hs
    have hv' : v = 31 := hv.symm.trans e31
    subst hv'
    have HS := Lib.hid hs
    clear hv hs e31
    go_enter Tryd.func96, Tryd.ntmps96
    go_wp2_with (first | refine ld_size bS rfl _ rfl rfl ?_ | (go_at_call 32; refine (vsize_b s false HS.out _).mono ?_; rintro e w1 ⟨rfl, hb1⟩))
    go_ret
    exact ⟨rfl, hB0.trans (hb1.mono hB0.size)⟩
  | true =>
    obtain ⟨b, hh⟩ : ∃ b, Pl.vh h = b := ⟨_, rfl⟩
    have hv' : v = if b = true then 0 else 30 := by
      rw [← hv]; unfold Pl.cp; rw [if_pos hs, hh]
    have HS := Lib.hid hs
    have HH := Lib.hid hh
    have HV := Lib.hid hv'
    clear hv hs hh hv'
    cases b <;>
    (go_enter Tryd.func96, Tryd.ntmps96
     go_wp2_with (first | refine ld_size bS rfl _ rfl rfl ?_ | (go_at_call 32; refine (vsize_b s true HS.out _).mono ?_; rintro e w1 ⟨rfl, hb1⟩; have hB1 := hB0.trans (hb1.mono hB0.size); have bH1 := bH.below hb1 hbl) | refine ld_head bH1 rfl _ rfl rfl ?_ | (go_at_call 36; refine (vhead_b h _ HH.out _).mono ?_; rintro e w2 ⟨rfl, hb2⟩))
     go_ret
     exact ⟨by rw [HV.out]; rfl, hB1.trans (hb2.mono hB1.size)⟩)
end Go.Proofs.YtghbipipehglfaaDoor
