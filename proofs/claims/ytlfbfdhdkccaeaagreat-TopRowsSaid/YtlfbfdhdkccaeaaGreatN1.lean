/- Rows, Fewest, of the program; the sanity check; Wide. -/
import Derived.Test.YtlfbfdhdkccaeaaGreatW6
import Derived.Test.YtlfbfdhdkccaeaaGreatPZ
namespace Go.Proofs.YtlfbfdhdkccaeaaGreat
open Go.RowKit Go.Shelf

set_option maxRecDepth 100000 in
set_option maxHeartbeats 1000000 in
theorem Rows_any (A : Option Addr) (l : List Pl.Bt) (c n : Nat) (hn : l.length = n) (w : World) (hI : Bts w A l) :
    Calls Tryz.prog 7 #[.slice A n c] w fun e w' => ∃ v f, e = .returned (.tuple #[v, .int .i64 (Pl.E l)]) ∧ RwI w' w.heap.size v f (Pl.Rs l) ∧ Below w.heap.size w w' := by
  subst hn
  have HC := Lib.hid (valid_any A l c w hI)
  have HI := Lib.hid hI
  obtain ⟨x, hx⟩ : ∃ x, Pl.vs l = x := ⟨_, rfl⟩
  rw [hx] at HC
  clear hI
  cases x
  · rw [Pl.E_no hx, Pl.Rs_no hx]
    go_enter Tryz.func7, Tryz.ntmps7
    go_wp2_with fail
    refine HC.out.mono ?_
    rintro e w1 ⟨rfl, hb⟩
    go_wp2
    go_ret2
    exact ⟨_, fun _ => .slice none 0 0, rfl, Rws.nil _ _ _, hb⟩
  · rw [Pl.E_ok hx, Pl.Rs_ok hx]
    have HA := Lib.hid (fun w' (hI : Bts w' A l) => arrange_any A l c _ rfl (Pl.ok_of hx) w' hI)
    clear hx
    go_enter Tryz.func7, Tryz.ntmps7
    go_wp2_with fail
    refine HC.out.mono ?_
    rintro e w1 ⟨rfl, hb⟩
    have HI1 := Lib.hid (HI.out.below hb)
    go_wp2_with fail
    refine (HA.out _ HI1.out).mono ?_
    rintro e w2 ⟨v, b, f, rfl, hR, hM, hb2⟩
    have HR := Lib.hid hR
    clear hR hM
    go_wp2
    go_ret2
    exact ⟨_, f, rfl, HR.out.mono hb.size, hb.trans (hb2.mono hb.size)⟩

set_option maxRecDepth 100000 in
set_option maxHeartbeats 1000000 in
theorem Fewest_any (A : Option Addr) (l : List Pl.Bt) (c n : Nat) (hn : l.length = n) (w : World) (hI : Bts w A l) :
    Calls Tryz.prog 6 #[.slice A n c] w fun e w' => e = .returned (.tuple #[.int .i64 (Pl.Rs l).length, .int .i64 (Pl.E l)]) ∧ Below w.heap.size w w' := by
  have HC := Lib.hid (Rows_any A l c n hn w hI)
  generalize Pl.Rs l = M at *
  generalize Pl.E l = v at *
  clear hI hn
  go_enter Tryz.func6, Tryz.ntmps6
  go_wp2_with fail
  refine HC.out.mono ?_
  rintro e w1 ⟨v1, f, rfl, hR, hb1⟩
  obtain ⟨A1, c1, rfl, _⟩ := hR.open encIr
  clear hR
  go_wp2
  go_ret2
  exact ⟨rfl, hb1⟩

theorem bts_two (w : World) (a b : Pl.Bt) : Bts (w.alloc (.cells (((btA a).toList ++ (btA b).toList).toArray) 48)) (some ⟨w.heap.size, 0, none⟩) [a, b] := by
  refine .inr ⟨w.heap.size, 0, rfl, by simp, fun k hk j v hj => ?_⟩
  rw [(Blk.new w 48 _).cell]
  match k, hk with
  | 0, _ =>
    match j, hj with
    | 0, hj => exact hj
    | 1, hj => exact hj
    | 2, hj => exact hj
    | 3, hj => exact hj
    | 4, hj => exact hj
    | 5, hj => exact hj
    | 6, hj => exact hj
  | 1, _ =>
    match j, hj with
    | 0, hj => exact hj
    | 1, hj => exact hj
    | 2, hj => exact hj
    | 3, hj => exact hj
    | 4, hj => exact hj
    | 5, hj => exact hj
    | 6, hj => exact hj

end Go.Proofs.YtlfbfdhdkccaeaaGreat

