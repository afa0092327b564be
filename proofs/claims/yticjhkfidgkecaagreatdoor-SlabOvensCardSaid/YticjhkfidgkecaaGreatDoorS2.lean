/- A row of the block that every law of the layer asks for. -/
import Derived.Test.YticjhkfidgkecaaGreatDoorS1
import Derived.Laws.BytesArg
namespace Go.Proofs.YticjhkfidgkecaaGreatDoor
open Go.RowKit Pl

theorem info_u8 : (Tryz.prog.info? 5).map (fun i => (i.zero, i.size, i.bytes)) = some (some (.int .u8 0), 1, 1) := by kernel_rfl
/-- the letters of the row, and the number of each one's colour -/
def ltr (k : Nat) : Int := if k < 2 then 97 else 98
def cno (k : Nat) : Nat := if k < 2 then 0 else 1
def lts (k : Nat) : List Value := (List.range k).map fun i => .int .u8 (ltr i)
theorem lts_succ (k : Nat) : lts (k + 1) = lts k ++ [.int .u8 (ltr k)] := by simp [lts, List.range_succ]
theorem new_u8 (W : World) (u : Value) : ∀ (j : Nat) (x : Value), [u][j]? = some x → (W.alloc (.cells #[u] 5)).cell? ((⟨W.heap.size, 0, none⟩ : Addr).add j) = some x := by
  intro j x hj
  have := (Blk.new W 5 #[u]).cell j
  rw [show (⟨W.heap.size, 0, none⟩ : Addr).add j = ⟨W.heap.size, j, none⟩ from by cases j <;> simp [Addr.add], this]
  simpa using hj
theorem own_setCell {B : Nat} {t : TypeId} {m n : Nat} {v : Value} {xs : List Value} {w : World} (h : w.ownsRow B t m v n xs) {g : Nat} (hg : g < B) (i : Nat) (u : Value) : (w.setCell ⟨g, i, none⟩ u).ownsRow B t m v n xs :=
  h.kept (row := some g) ⟨rfl, rfl, rfl, by simp [World.setCell], fun j hj hr => Below.heap_setCell w ⟨g, i, none⟩ u j (fun e => hr (by rw [e]))⟩ (by
    cases hv : Value.ownBlock v with
    | none => simp
    | some b => have := (h.lt b hv).1; simp; omega)
theorem own_below {B : Nat} {t : TypeId} {m n : Nat} {v : Value} {xs : List Value} {w w' : World} (h : w.ownsRow B t m v n xs) (hb : Below w.heap.size w w') : w'.ownsRow B t m v n xs :=
  h.kept (row := none) ⟨hb.os, hb.tape, hb.output, hb.size, fun k hk _ => hb.block k hk⟩ (by cases hv : Value.ownBlock _ <;> simp)
theorem own_slice3 {w : World} {base : Nat} {t : TypeId} {v : Value} {n : Nat} {us : List Value} (h : w.ownsRow base t 1 v n us) (h0 : 0 < n) :
    ∃ g cap, v = .slice (some ⟨g, 0, none⟩) n cap ∧ ∀ i u, us[i]? = some u → w.cell? ⟨g, i, none⟩ = some u := by
  obtain ⟨g, d, rfl, _, _, _, hc⟩ := own_slice h h0
  exact ⟨g, d, rfl, hc⟩
theorem sane_conv (g c : Nat) (W : World) (h : ∀ i u, (lts 3)[i]? = some u → W.cell? ⟨g, i, none⟩ = some u) : (convert 61 9 (.slice (some ⟨g, 0, none⟩) 3 c)).run Tryz.prog W = .ok (str [97, 97, 98]) W := by
  have := run_convert_bytes_arg (P := Tryz.prog) W 61 5 Tryz.underlying61 Tryz.underlying5 g 0 3 c [97, 97, 98] rfl (fun i hi => by
    rw [Nat.zero_add]
    have hi : i = 0 ∨ i = 1 ∨ i = 2 := by omega
    rcases hi with rfl | rfl | rfl <;> exact h _ _ rfl) 9 Tryz.underlying9
  rw [this]; congr 2
set_option maxRecDepth 100000 in
set_option maxHeartbeats 8000000 in
theorem row_sane (w : World) (hO : Own w) : Calls Tryz.prog 78 #[saneV, .agg #[.int .i64 0, .int .i64 0, .int .i64 0], .int .i64 0] w fun e' w' => e' = .returned (str [97, 97, 98]) ∧ Below w.heap.size w w' := by
  obtain ⟨i0, hi, hz0, hz1, hz2⟩ := info_parts info_u8
  have hb := (Below.refl w.heap.size w).alloc (Nat.le_refl _) (.cells #[.int .i64 0, .int .i64 0, .int .i64 0] 22)
  have HB := Lib.hid (hb.alloc hb.size (.cells #[.int .i64 0, .int .i64 0, .int .i64 0] 22))
  have B2 := Blk.new (w.alloc (.cells #[.int .i64 0, .int .i64 0, .int .i64 0] 22)) 22 #[.int .i64 0, .int .i64 0, .int .i64 0]
  rw [show (w.alloc (.cells #[.int .i64 0, .int .i64 0, .int .i64 0] 22)).heap.size = w.heap.size + 1 from Array.size_push _] at B2
  have HB2 := Lib.hid B2
  have HO := Lib.hid hO
  have HX := Lib.hid (fun w => extents_shape ⟨3, 1, 1⟩ w)
  have hm := fun w => me172 3 1 1 0 158 158 (.agg #[.int .i64 2, .int .i64 1, .int .i64 1, .int .i64 0]) (.agg #[.int .i64 1, .int .i64 1, .int .i64 1, .int .i64 1]) w
  have mc := fun w => mc172 3 1 1 0 158 158 (.agg #[.int .i64 2, .int .i64 1, .int .i64 1, .int .i64 0]) (.agg #[.int .i64 1, .int .i64 1, .int .i64 1, .int .i64 1]) w
  have hcall := call201
  have hcs := callStack
  have hix := idx3_0 3 1 1
  have HC := Lib.hid (fun (k : Nat) (hk : k < 3) w => stack_colour ⟨3, 1, 1⟩ ⟨2, 1, 1⟩ ⟨1, 1, 1⟩ ⟨k, 0, 0⟩ 0 1 (by dsimp only; omega) (by decide) (cno k : Nat) (by unfold cno; dsimp only; split <;> (first | rw [if_pos (by omega)] | rw [if_neg (by omega)]) <;> rfl) w)
  clear hb B2 hO
  unfold saneV stackV
  unfold solidV at *
  generalize (Value.agg #[.int .i64 3, .int .i64 1, .int .i64 1, .int .i64 0, .iface 158 (.agg #[.int .i64 2, .int .i64 1, .int .i64 1, .int .i64 0]), .iface 158 (.agg #[.int .i64 1, .int .i64 1, .int .i64 1, .int .i64 1])]) = p at *
  obtain ⟨n0, hn0⟩ : ∃ n0, n0 = w.heap.size := ⟨_, rfl⟩
  have Hn0 := Lib.hid hn0
  rw [← hn0] at HB2
  go_enter Tryz.func78, Tryz.ntmps78
  go_wp2_with fail
  rw [← hn0]
  clear hn0
  generalize (w.alloc (.cells #[.int .i64 0, .int .i64 0, .int .i64 0] 22)).alloc (.cells #[.int .i64 0, .int .i64 0, .int .i64 0] 22) = W at *
  refine (HX.out _).mono ?_
  rintro e' w1 ⟨rfl, hb1⟩
  have HB1 := Lib.hid (HB.out.trans (hb1.mono HB.out.size))
  have HC1 := Lib.hid (HB2.out.below hb1 HB2.out.lt)
  clear hb1 HB HB2
  dsimp only [e3V]
  go_wp2_with (at_make; refine wpList_make_own _ rfl _ _ 61 rfl (n0 + 2) 5 i0 _ 1 Tryz.underlying61 hi hz0 hz1 .i64 .i64 _ 3 rfl rfl rfl (by rw [hz2]; omega) (by unfold maxLen; omega) (by have := HC1.out.lt; omega) ?_; intro w0 hown0 hgrow0; have hBw : Below w.heap.size w w0 := HB1.out.grown hgrow0 HB1.out.size (fun k e => by cases e); have hBn : Blk w0 (n0 + 1) 22 #[.int .i64 0, .int .i64 0, .int .i64 0] := (hgrow0.block (n0 + 1) HC1.out.lt (by simp)).trans HC1.out; have HBw := Lib.hid hBw; have HBn := Lib.hid hBn; have HOw := Lib.hid hown0; clear hown0 hgrow0 hBw hBn)
  refine (HX.out _).mono ?_
  rintro e' w2 ⟨rfl, hb2⟩
  have HB3 := Lib.hid (below_trans HBw.out hb2)
  have HC3 := Lib.hid (HBn.out.below hb2 HBn.out.lt)
  have HO3 := Lib.hid (HOw.out.kept (row := none) ⟨hb2.os, hb2.tape, hb2.output, hb2.size, fun k hk _ => hb2.block k hk⟩ (by cases hv : Value.ownBlock _ <;> simp))
  clear hb2 HB1 HC1 HBw HBn HOw HX hm hcall
  dsimp only [e3V]
  go_wp2_with fail
  clear hix
  go_loopw [8, 20] (fun pv i wr => ∃ k : Nat, k ≤ 3 ∧ i = .int .i64 k ∧ wr.ownsRow (n0 + 2) 5 1 pv k (lts k) ∧ Below w.heap.size w wr ∧ ∃ x : Int, Blk wr (n0 + 1) 22 #[.int .i64 x, .int .i64 0, .int .i64 0]) (fun _ i _ => 3 - (intOf i).toNat)
  case atStart => exact ⟨0, by omega, rfl, HO3.out, HB3.out, 0, HC3.out⟩
  case round =>
    clear HO3 HB3 HC3
    obtain ⟨k, hk, rfl, hown, hBw, x, hBn⟩ := hrel
    have HO4 := Lib.hid hown
    have HB4 := Lib.hid hBw
    have z0 := hBn.frozen 0
    have hB5 := hBn.set (i := 0) (.int .i64 k)
    have hQ5 := below_set hBw (show w.heap.size ≤ n0 + 1 by have := Hn0.out; omega) 0 (.int .i64 (k : Int))
    have hO5 := own_setCell hown (show n0 + 1 < n0 + 2 by omega) 0 (.int .i64 (k : Int))
    clear hown hBw
    by_cases hlt : k < 3
    · have HL := Lib.hid hlt
      have hltI : (k : Int) < 3 := by omega
      have d0 : wr.cell? ⟨n0 + 1, 0, none⟩ = some (.int .i64 x) := (hBn.cell 0).trans rfl
      have q0 : (wr.setCell ⟨n0 + 1, 0, none⟩ (.int .i64 (k : Int))).cell? ⟨n0 + 1, 0, none⟩ = some (.int .i64 k) := (hB5.cell 0).trans rfl
      have q1 : (wr.setCell ⟨n0 + 1, 0, none⟩ (.int .i64 (k : Int))).cell? ⟨n0 + 1, 1, none⟩ = some (.int .i64 0) := (hB5.cell 1).trans rfl
      have q2 : (wr.setCell ⟨n0 + 1, 0, none⟩ (.int .i64 (k : Int))).cell? ⟨n0 + 1, 2, none⟩ = some (.int .i64 0) := (hB5.cell 2).trans rfl
      have HB5 := Lib.hid hB5
      have HQ5 := Lib.hid hQ5
      have HO5 := Lib.hid hO5
      have HCk := Lib.hid (HC.out k hlt)
      have HQ9 : Hid (cno k < 9) := Lib.hid (by unfold cno; split <;> omega)
      have HLS := Lib.hid (lts_succ k)
      clear hBn hB5 hQ5 hO5 hlt
      go_wp2_with fail
      clear d0 z0 q0 q1 q2
      generalize wr.setCell ⟨n0 + 1, 0, none⟩ (.int .i64 (k : Int)) = w5 at *
      refine (HCk.out _).mono ?_
      rintro e' w6 ⟨rfl, hb6⟩
      have HB6 := Lib.hid (below_trans HQ5.out hb6)
      have HN6 := Lib.hid (HB5.out.below hb6 HB5.out.lt)
      have HO6 := Lib.hid (own_below HO5.out hb6)
      obtain ⟨_, hcol⟩ := (HO.out.below HB6.out).col
      have hq := HQ9.out
      have c0 : w6.cell? ⟨0, cno k, none⟩ = some (.int .u8 (ltr k)) := by
        refine (hcol.cell (cno k)).trans ?_
        unfold cno ltr; split <;> rfl
      generalize cno k = q at *
      generalize ltr k = L at *
      have hqI : (q : Int) < 9 := by omega
      clear hb6 HQ5 HB5 HO5 HCk HB4 HO4 hcol
      go_wp2_with (at_builtin; refine wpList_append_own _ rfl _ _ 61 rfl (n0 + 2) 5 i0 _ 1 1 Tryz.underlying61 hi hz0 hz1 hz2 rfl (by decide) _ _ _ rfl (HO6.out.alloc _) ⟨w6.heap.size, 0, none⟩ 1 1 [.int .u8 L] rfl rfl (new_u8 _ _) (fun u hu => by simp at hu; subst hu; rfl) (by unfold maxLen; omega) (by omega) (by have := HN6.out.lt; simp; omega) ?_; intro v' w7 hown' hgrow _)
      have HB7 : Hid (Below w.heap.size w w7) := Lib.hid ((HB6.out.alloc HB6.out.size (.cells #[.int .u8 L] 5)).grown hgrow (by have := HB6.out.size; simp; omega) (fun b e => by have := (HO6.out.lt b e).1; have := Hn0.out; omega))
      have HN7 : Hid (Blk w7 (n0 + 1) 22 #[.int .i64 k, .int .i64 0, .int .i64 0]) := Lib.hid ((hgrow.block (n0 + 1) (by have := HN6.out.lt; simp; omega) (fun e => by have := (HO6.out.lt _ e.symm).1; omega)).trans (HN6.out.alloc (.cells #[.int .u8 L] 5)))
      have HO7 : Hid (w7.ownsRow (n0 + 2) 5 1 v' (k + 1) (lts (k + 1))) := Lib.hid (by rw [HLS.out]; exact hown')
      clear hgrow hown' HO6 HB6 HN6 c0
      go_wp2_with fail
      go_roundw
      case rel => exact ⟨k + 1, HL.out, by go_num, HO7.out, HB7.out, k, HN7.out⟩
      case measure => have := HL.out; simp [intOf]; omega
    · obtain rfl : k = 3 := by omega
      obtain ⟨g, cc, rfl, hcell⟩ := own_slice3 HO4.out (by decide)
      have hcv := sane_conv g cc wr hcell
      clear hcell HO4 hO5 hB5 hQ5 z0 hBn
      go_wp2_with fail
      go_ret
      exact ⟨rfl, HB4.out⟩
end Go.Proofs.YticjhkfidgkecaaGreatDoor
