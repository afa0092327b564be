/- Rows, Fewest, of the program; the sanity check; Wide. -/
import Derived.Test.YtlfbfdhdkccaeaaW6
import Derived.Test.YtlfbfdhdkccaeaaP4
namespace Go.Proofs.Ytlfbfdhdkccaeaa
open Go.RowKit Go.Shelf

set_option maxRecDepth 100000 in
set_option maxHeartbeats 1000000 in
theorem Rows_any (A : Option Addr) (l : List Pl.Bt) (c n : Nat) (hn : l.length = n) (w : World) (hI : Bts w A l) :
    Calls Try.prog 24 #[.slice A n c] w fun e w' => ∃ v f, e = .returned (.tuple #[v, .int .i64 (Pl.E l)]) ∧ RwI w' w.heap.size v f (Pl.Rs l) ∧ Below w.heap.size w w' := by
  subst hn
  have HC := Lib.hid (valid_any A l c w hI)
  have HI := Lib.hid hI
  obtain ⟨x, hx⟩ : ∃ x, Pl.vs l = x := ⟨_, rfl⟩
  rw [hx] at HC
  clear hI
  cases x
  · rw [Pl.E_no hx, Pl.Rs_no hx]
    go_enter Try.func24, Try.ntmps24
    go_wp2_with fail
    refine HC.out.mono ?_
    rintro e w1 ⟨rfl, hb⟩
    go_wp2
    go_ret2
    exact ⟨_, fun _ => .slice none 0 0, rfl, Rws.nil _ _ _, hb⟩
  · rw [Pl.E_ok hx, Pl.Rs_ok hx]
    have HA := Lib.hid (fun w' (hI : Bts w' A l) => arrange_any A l c _ rfl (Pl.ok_of hx) w' hI)
    clear hx
    go_enter Try.func24, Try.ntmps24
    go_wp2_with fail
    refine HC.out.mono ?_
    rintro e w1 ⟨rfl, hb⟩
    have HI1 := Lib.hid (HI.out.below hb)
    go_wp2_with fail
    refine (HA.out _ HI1.out).mono ?_
    rintro e w2 ⟨v, b, f, rfl, hR, hM, hb2⟩
    have HR := Lib.hid hR
    clear hR hM
    go_wp2
    go_ret2
    exact ⟨_, f, rfl, HR.out.mono hb.size, hb.trans (hb2.mono hb.size)⟩

set_option maxRecDepth 100000 in
set_option maxHeartbeats 1000000 in
theorem Fewest_any (A : Option Addr) (l : List Pl.Bt) (c n : Nat) (hn : l.length = n) (w : World) (hI : Bts w A l) :
    Calls Try.prog 26 #[.slice A n c] w fun e w' => e = .returned (.tuple #[.int .i64 (Pl.Rs l).length, .int .i64 (Pl.E l)]) ∧ Below w.heap.size w w' := by
  have HC := Lib.hid (Rows_any A l c n hn w hI)
  generalize Pl.Rs l = M at *
  generalize Pl.E l = v at *
  clear hI hn
  go_enter Try.func26, Try.ntmps26
  go_wp2_with fail
  refine HC.out.mono ?_
  rintro e w1 ⟨v1, f, rfl, hR, hb1⟩
  obtain ⟨A1, c1, rfl, _⟩ := hR.open encIr
  clear hR
  go_wp2
  go_ret2
  exact ⟨rfl, hb1⟩

theorem bts_two (w : World) (a b : Pl.Bt) : Bts (w.alloc (.cells (((btA a).toList ++ (btA b).toList).toArray) 25)) (some ⟨w.heap.size, 0, none⟩) [a, b] := by
  refine .inr ⟨w.heap.size, 0, rfl, by simp, fun k hk j v hj => ?_⟩
  rw [(Blk.new w 25 _).cell]
  match k, hk with
  | 0, _ =>
    match j, hj with
    | 0, hj => exact hj
    | 1, hj => exact hj
    | 2, hj => exact hj
    | 3, hj => exact hj
    | 4, hj => exact hj
    | 5, hj => exact hj
    | 6, hj => exact hj
  | 1, _ =>
    match j, hj with
    | 0, hj => exact hj
    | 1, hj => exact hj
    | 2, hj => exact hj
    | 3, hj => exact hj
    | 4, hj => exact hj
    | 5, hj => exact hj
    | 6, hj => exact hj

set_option maxRecDepth 100000 in
set_option maxHeartbeats 4000000 in
/-- the sanity check -/
theorem sane_any (w : World) : Calls Try.prog 16 #[] w fun e w' => e = .returned (.bool true) ∧ Below w.heap.size w w' := by
  have hl : Pl.sl.length = 2 := rfl
  have HM := Lib.hid (fun (w' : World) A c (hI : Bts w' A Pl.sl) => Rows_any A Pl.sl c 2 hl w' hI)
  have HN := Lib.hid (fun (w' : World) A c (hI : Bts w' A Pl.sl) => Fewest_any A Pl.sl c 2 hl w' hI)
  rw [Pl.sl_Rs, Pl.E_ok Pl.sl_vs] at HM HN
  have hB := (Below.refl w.heap.size w).alloc (Nat.le_refl _) (.cells (((btA ⟨1, 1, 5, 0, 0, 0, 0⟩).toList ++ (btA ⟨2, 2, 3, 0, 0, 0, 0⟩).toList).toArray) 25)
  have HT := Lib.hid (bts_two w ⟨1, 1, 5, 0, 0, 0, 0⟩ ⟨2, 2, 3, 0, 0, 0, 0⟩)
  clear hl
  go_enter Try.func16, Try.ntmps16
  go_wp2_with fail
  refine (HN.out _ _ _ HT.out).mono ?_
  rintro e w1 ⟨rfl, hb1⟩
  have hB1 := hB.trans (hb1.mono hB.size)
  have HT1 := Lib.hid (HT.out.below hb1)
  clear hb1 hB HT
  go_wp2_with fail
  refine (HM.out _ _ _ HT1.out).mono ?_
  rintro e w2 ⟨v2, f, rfl, hR, hb2⟩
  have hB2 := hB1.trans (hb2.mono hB1.size)
  obtain ⟨A1, c1, rfl, hr1, _, _⟩ := hR.open encIr
  obtain ⟨b, o, rfl, hb, hc⟩ := hr1.open (by simp)
  obtain ⟨A0, c0, q0, _⟩ := hc 0 (by simp)
  rw [Nat.add_zero] at q0
  have q0' : w2.cell? ⟨b, o, none⟩ = some (.slice A0 1 c0) := q0
  clear hr1 hb2 hB1 hc hR q0
  go_wp2_with fail
  go_ret
  exact ⟨rfl, hB2⟩

set_option maxHeartbeats 400000 in
theorem wide_b (A : Option Addr) (n c : Nat) (m : Int) (v : Bool) (hv : decide (m < (n : Int)) = v) (w : World) :
    Calls Try.prog 15 #[.slice A n c, .int .i64 m] w fun e w' => e = .returned (.bool v) ∧ w' = w := by
  have HV := Lib.hid hv
  clear hv
  go_enter Try.func15, Try.ntmps15
  go_wp2
  go_ret
  exact ⟨by rw [← HV.out]; simp, rfl⟩
end Go.Proofs.Ytlfbfdhdkccaeaa
