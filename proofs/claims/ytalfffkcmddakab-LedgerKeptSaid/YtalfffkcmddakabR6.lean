/- The document's journal: Dead. -/
import Derived.Test.YtalfffkcmddakabR5
namespace Go.Proofs.Ytalfffkcmddakab
open Go.RowKit Go.Shelf

theorem Pl.ded_ne {D : Pl.Dk} {J : Pl.Jn} (h1 : 1 ≤ J.st) (h2 : 1 ≤ D.st) (hf : J.fd = false) : (((J.st - 1 : Nat) : Int) != ((D.st - 1 : Nat) : Int)) = Pl.ded D J := by
  unfold Pl.ded
  rw [hf, Bool.false_or]
  by_cases h : J.st = D.st
  · rw [h]; simp
  · rw [decide_eq_true h]; simp; omega
set_option maxRecDepth 100000 in
set_option maxHeartbeats 4000000 in
theorem rdead_any {w : World} {j r : Nat} {J : Pl.Jn} {D : Pl.Dk} (h : Rjl w j r J) (k : Rsk w r D) (x : Bool) (hx : Pl.ded D J = x) : Calls Try.prog 46 #[ptr j] w fun e w' => e = .returned (.bool x) ∧ Below w.heap.size w w' := by
  obtain ⟨v, h⟩ := h
  obtain ⟨v0, v1, kp, k⟩ := k
  have q0 : w.cell? ⟨j, 0, none⟩ = some (ptr r) := h.blk.cell 0
  have q3 : w.cell? ⟨j, 3, none⟩ = some (.int .i64 ((J.st - 1 : Nat) : Int)) := h.blk.cell 3
  have q4 : w.cell? ⟨j, 4, none⟩ = some (.bool J.fd) := h.blk.cell 4
  have q5 : w.cell? ⟨r, 5, none⟩ = some (.int .i64 ((D.st - 1 : Nat) : Int)) := k.blk.cell 5
  have hne := fun hf => Pl.ded_ne h.s k.st hf
  have hd1 : J.fd = true → x = true := fun hf => by rw [← hx]; unfold Pl.ded; rw [hf]; rfl
  rw [hx] at hne
  generalize ((J.st - 1 : Nat) : Int) = a at *
  generalize ((D.st - 1 : Nat) : Int) = b at *
  clear hx h k
  go_enter Try.func46, Try.ntmps46
  generalize J.fd = f at *
  have z0 := fun s : Ext w => s.cell q0
  have z3 := fun s : Ext w => s.cell q3
  have z4 := fun s : Ext w => s.cell q4
  have z5 := fun s : Ext w => s.cell q5
  clear q0 q3 q4 q5
  cases f
  case true =>
    obtain rfl := hd1 rfl
    clear hne hd1
    go_wp2
    refine wp_region_ext (by kernel_rfl) (by kernel_rfl) ?_
    repeat (go_big_quiet_step (fail))
    refine wpQuiet_nil ?_
    rintro _ ⟨s, rfl⟩
    go_wp2
    go_ret
    exact ⟨rfl, s.h⟩
  case false =>
    have hne := hne rfl
    clear hd1
    go_wp2
    refine wp_region_ext (by kernel_rfl) (by kernel_rfl) ?_
    repeat (go_big_quiet_step (fail))
    refine wpQuiet_nil ?_
    rintro _ ⟨s, rfl⟩
    go_wp2
    go_ret
    exact ⟨rfl, s.h⟩
end Go.Proofs.Ytalfffkcmddakab
