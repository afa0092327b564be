import Derived.Test.YthabpgclnbmnpaaGreatDoorProg
import Derived.WalkKit
import Derived.WalkSpells
import Derived.WalkLawsBesides
import Derived.Outline
import Derived.BigQuiet
import Derived.Deep.QuietTactic
namespace Go.Proofs.YthabpgclnbmnpaaGreatDoor
open Go.RowKit

/-- a world in which all that lay in w0 lies as it lay -/
structure Ext (w0 : World) where
  w : World
  h : Below w0.heap.size w0 w

instance (w0 : World) : Nonempty (Ext w0) := ⟨⟨w0, Below.refl _ _⟩⟩

theorem Ext.cell {w0 : World} (s : Ext w0) {p : Addr} {v : Value} (hp : w0.cell? p = some v) : s.w.cell? p = some v := by
  have hlt : p.block < w0.heap.size := by
    rcases Nat.lt_or_ge p.block w0.heap.size with h | h
    · exact h
    · unfold World.cell? at hp; rw [Array.getElem?_eq_none h] at hp; cases hp
  rw [s.h.cell hlt]; exact hp

theorem wp_region_ext {P : Program} {id : Nat} {Q : Exit → Act → World → Prop} {a : Act} {w : World} {l : List Oper} (hm : P.follows .mixedOrders = true) (hB : Region.lexB .any l.toArray = true)
    (h : wpQuiet P l.toArray (fun w' => ∃ s : Ext w, w' = s.w) (fun a' => ∀ w', (∃ s : Ext w, w' = s.w) → Q .normal a' w') l a) : (Code.region id l.toArray true).wp P Q a w :=
  wp_region_quiet (C := fun w' => ∃ s : Ext w, w' = s.w) hm hB ⟨⟨w.drew, (Below.refl _ w).drew⟩, rfl⟩ (by simpa using h)

theorem calls_ext {P : Program} {f : FuncId} {args : Array Value} {w0 : World} {s : Ext w0} {v : Value}
    (h : Calls P f args s.w fun e w' => e = .returned v ∧ Below s.w.heap.size s.w w') : Calls P f args s.w fun e w'' => e = .returned v ∧ ∃ s' : Ext w0, w'' = s'.w :=
  h.mono fun _ w' ⟨he, hb⟩ => ⟨he, ⟨w', s.h.trans (hb.mono s.h.size)⟩, rfl⟩

theorem mul_bd {a b A B : Int} (ha : -A ≤ a) (ha' : a ≤ A) (hb : -B ≤ b) (hb' : b ≤ B) : -(A * B) ≤ a * b ∧ a * b ≤ A * B := by
  have h1 : a.natAbs ≤ A.natAbs := by omega
  have h2 : b.natAbs ≤ B.natAbs := by omega
  have h3 := Nat.mul_le_mul h1 h2
  rw [← Int.natAbs_mul, ← Int.natAbs_mul] at h3
  have hA : 0 ≤ A := by omega
  have hB : 0 ≤ B := by omega
  have := Int.mul_nonneg hA hB
  omega

set_option maxHeartbeats 400000 in
theorem in_any (x y : Int) (w : World) :
    Calls Tryz.prog 38 #[.agg #[.int .i64 x, .int .i64 y]] w fun e w' => e = .returned (.bool (decide (-5000 ≤ x) && (decide (x ≤ 5000) && (decide (-5000 ≤ y) && decide (y ≤ 5000))))) ∧ Below w.heap.size w w' := by
  go_enter Tryz.func38, Tryz.ntmps38
  go_wp2
  all_goals (go_ret; exact ⟨by simp [*]; try omega, (Below.refl _ _).alloc (Nat.le_refl _) _⟩)

set_option maxHeartbeats 400000 in
theorem cross_any (ax ay bx bY cx cy : Int) (h1 : -1000000 ≤ ax) (h2 : ax ≤ 1000000) (h3 : -1000000 ≤ ay) (h4 : ay ≤ 1000000) (h5 : -1000000 ≤ bx) (h6 : bx ≤ 1000000) (h7 : -1000000 ≤ bY) (h8 : bY ≤ 1000000)
    (h9 : -1000000 ≤ cx) (h10 : cx ≤ 1000000) (h11 : -1000000 ≤ cy) (h12 : cy ≤ 1000000) (w : World) :
    Calls Tryz.prog 39 #[.agg #[.int .i64 ax, .int .i64 ay], .agg #[.int .i64 bx, .int .i64 bY], .agg #[.int .i64 cx, .int .i64 cy]] w fun e w' =>
      e = .returned (.int .i64 ((bx - ax) * (cy - ay) - (bY - ay) * (cx - ax))) ∧ Below w.heap.size w w' := by
  obtain ⟨m1, m2⟩ := mul_bd (a := bx - ax) (b := cy - ay) (A := 2000000) (B := 2000000) (by omega) (by omega) (by omega) (by omega)
  obtain ⟨m3, m4⟩ := mul_bd (a := bY - ay) (b := cx - ax) (A := 2000000) (B := 2000000) (by omega) (by omega) (by omega) (by omega)
  go_enter Tryz.func39, Tryz.ntmps39
  go_wp2
  go_ret
  exact ⟨rfl, (((Below.refl _ _).alloc (Nat.le_refl _) _).alloc (by simp) _).alloc (by simp; omega) _⟩

set_option maxHeartbeats 400000 in
theorem minus_any (ax ay bx bY : Int) (h1 : -10000000 ≤ ax) (h2 : ax ≤ 10000000) (h3 : -10000000 ≤ ay) (h4 : ay ≤ 10000000) (h5 : -10000000 ≤ bx) (h6 : bx ≤ 10000000) (h7 : -10000000 ≤ bY) (h8 : bY ≤ 10000000) (w : World) :
    Calls Tryz.prog 70 #[.agg #[.int .i64 ax, .int .i64 ay], .agg #[.int .i64 bx, .int .i64 bY]] w fun e w' =>
      e = .returned (.agg #[.int .i64 (ax - bx), .int .i64 (ay - bY)]) ∧ Below w.heap.size w w' := by
  go_enter Tryz.func70, Tryz.ntmps70
  go_wp2
  refine bodyPost_ret (v := .agg #[.int .i64 (ax - bx), .int .i64 (ay - bY)]) (by simp [results, Tryz.results70, go_sem]) rfl ⟨rfl, ?_⟩
  exact (((Below.refl _ _).alloc (Nat.le_refl _) _).alloc (by simp) _).alloc (by simp; omega) _

set_option maxHeartbeats 400000 in
theorem cross72_any (ax ay bx bY : Int) (h1 : -20000000 ≤ ax) (h2 : ax ≤ 20000000) (h3 : -20000000 ≤ ay) (h4 : ay ≤ 20000000) (h5 : -20000000 ≤ bx) (h6 : bx ≤ 20000000) (h7 : -20000000 ≤ bY) (h8 : bY ≤ 20000000) (w : World) :
    Calls Tryz.prog 43 #[.agg #[.int .i64 ax, .int .i64 ay], .agg #[.int .i64 bx, .int .i64 bY]] w fun e w' =>
      e = .returned (.int .i64 (ax * bY - ay * bx)) ∧ Below w.heap.size w w' := by
  obtain ⟨m1, m2⟩ := mul_bd (a := ax) (b := bY) (A := 20000000) (B := 20000000) (by omega) (by omega) (by omega) (by omega)
  obtain ⟨m3, m4⟩ := mul_bd (a := ay) (b := bx) (A := 20000000) (B := 20000000) (by omega) (by omega) (by omega) (by omega)
  go_enter Tryz.func43, Tryz.ntmps43
  go_wp2
  go_ret
  exact ⟨rfl, ((Below.refl _ _).alloc (Nat.le_refl _) _).alloc (by simp) _⟩

/-- a place, boxed -/
def xyo (x y : Int) : Obj := .cells #[.int .i64 x, .int .i64 y] 42

set_option maxHeartbeats 400000 in
theorem turn_any (ax ay bx bY cx cy : Int) (h1 : -1000000 ≤ ax) (h2 : ax ≤ 1000000) (h3 : -1000000 ≤ ay) (h4 : ay ≤ 1000000) (h5 : -1000000 ≤ bx) (h6 : bx ≤ 1000000) (h7 : -1000000 ≤ bY) (h8 : bY ≤ 1000000)
    (h9 : -1000000 ≤ cx) (h10 : cx ≤ 1000000) (h11 : -1000000 ≤ cy) (h12 : cy ≤ 1000000) (w : World) :
    Calls Tryz.prog 49 #[.agg #[.int .i64 ax, .int .i64 ay], .agg #[.int .i64 bx, .int .i64 bY], .agg #[.int .i64 cx, .int .i64 cy]] w fun e w' =>
      e = .returned (.int .i64 ((bx - ax) * (cy - bY) - (bY - ay) * (cx - bx))) ∧ Below w.heap.size w w' := by
  go_enter Tryz.func49, Tryz.ntmps49
  go_wp2
  obtain ⟨W, hW⟩ : ∃ W, W = (((w.alloc (.cells #[.int .i64 ax, .int .i64 ay] 42)).alloc (.cells #[.int .i64 bx, .int .i64 bY] 42)).alloc (.cells #[.int .i64 cx, .int .i64 cy] 42)) := ⟨_, rfl⟩
  have hb : Below w.heap.size w W := by rw [hW]; exact (((Below.refl _ _).alloc (Nat.le_refl _) _).alloc (by simp) _).alloc (by simp; omega) _
  have f1 : ∀ s : Ext W, s.w.cell? ⟨w.heap.size, 0, none⟩ = some (.int .i64 ax) := fun s => s.cell (by rw [hW]; go_simp)
  have f2 : ∀ s : Ext W, s.w.cell? ⟨w.heap.size, 1, none⟩ = some (.int .i64 ay) := fun s => s.cell (by rw [hW]; go_simp)
  have f3 : ∀ s : Ext W, s.w.cell? ⟨w.heap.size + 1, 0, none⟩ = some (.int .i64 bx) := fun s => s.cell (by rw [hW]; go_simp)
  have f4 : ∀ s : Ext W, s.w.cell? ⟨w.heap.size + 1, 1, none⟩ = some (.int .i64 bY) := fun s => s.cell (by rw [hW]; go_simp)
  have f5 : ∀ s : Ext W, s.w.cell? ⟨w.heap.size + 1 + 1, 0, none⟩ = some (.int .i64 cx) := fun s => s.cell (by rw [hW]; go_simp)
  have f6 : ∀ s : Ext W, s.w.cell? ⟨w.heap.size + 1 + 1, 1, none⟩ = some (.int .i64 cy) := fun s => s.cell (by rw [hW]; go_simp)
  rw [← hW]
  clear hW
  refine wp_region_ext (by kernel_rfl) (by kernel_rfl) ?_
  repeat (quiet_step ((first | (go_at_call 70; refine calls_ext (minus_any _ _ _ _ (by omega) (by omega) (by omega) (by omega) (by omega) (by omega) (by omega) (by omega) _)) | (go_at_call 43; refine calls_ext (cross72_any _ _ _ _ (by omega) (by omega) (by omega) (by omega) (by omega) (by omega) (by omega) (by omega) _)))))
  refine wpQuiet_nil ?_
  rintro _ ⟨s, rfl⟩
  go_wp2
  go_ret
  exact ⟨rfl, hb.trans (s.h.mono hb.size)⟩

end Go.Proofs.YthabpgclnbmnpaaGreatDoor
