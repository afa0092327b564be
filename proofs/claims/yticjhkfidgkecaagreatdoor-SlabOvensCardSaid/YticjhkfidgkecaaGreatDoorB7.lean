import Derived.Test.YticjhkfidgkecaaGreatDoorA4
import Derived.LaidEqlPtr
namespace Go.Proofs.YticjhkfidgkecaaGreatDoor
open Go.RowKit Pl

/-- a block of the program's own making: cells, none of them frozen, and no mark behind them -/
def Cl' (w : World) (b : Nat) : Prop := ∃ cs t, w.heap[b]? = some (.cells cs t (0, 0))
/-- where a list of parts lies: the key of 'seen' -/
abbrev keyK (a : Addr) (n : Nat) : Value := .agg #[.pointer (some a), .int .i64 n]
theorem hte25 : ∃ j, Tryz.prog.info? 25 = some j ∧ j.size = 7 := by
  have h : (Tryz.prog.info? 25).map (fun i => i.size) = some 7 := by kernel_rfl
  obtain ⟨i, hi, hs⟩ := Option.map_eq_some_iff.1 h
  exact ⟨i, hi, hs⟩
theorem eq_ptr (a b : Addr) (w : World) (ha : Cl' w a.block) (hb : Cl' w b.block) (d : Nat) : (Op.equalIn (d + 1) 145 (.pointer (some a)) (.pointer (some b))).run Tryz.prog w = .ok (decide (a = b)) w := by
  obtain ⟨ca, ta, ha⟩ := ha
  obtain ⟨cb, tb, hb⟩ := hb
  obtain ⟨j, hj, hs⟩ := hte25
  by_cases e : a = b
  · subst e
    simp [Op.equalIn, run_underlying Tryz.underlying145, sizeOf, typeInfo, hj, run_sameAddr_same]
  · simp [Op.equalIn, run_underlying Tryz.underlying145, sizeOf, typeInfo, hj, hs, run_sameAddr_other w e ha hb, e]
theorem stood147 : Tryz.prog.stoodInHeld 147 = false := by kernel_rfl
theorem eq_int (n m : Int) (w : World) (d : Nat) : (Op.equalIn (d + 1) 3 (.int .i64 n) (.int .i64 m)).run Tryz.prog w = .ok (decide (n = m)) w := by
  by_cases e : n = m
  · simp [Op.equalIn, run_underlying Tryz.underlying3, e]
  · simp [Op.equalIn, run_underlying Tryz.underlying3, e]
theorem part0 (a : Addr) (n : Int) (w : World) : (part 145 #[.pointer (some a), .int .i64 n] 0).run Tryz.prog w = .ok (.pointer (some a)) w := by kernel_rfl
theorem part1 (a : Addr) (n : Int) (w : World) : (part 3 #[.pointer (some a), .int .i64 n] 1).run Tryz.prog w = .ok (.int .i64 n) w := by kernel_rfl
theorem eq_key (a b : Addr) (n m : Nat) (w : World) (ha : Cl' w a.block) (hb : Cl' w b.block) : (Op.equal 147 (keyK a n) (keyK b m)).run Tryz.prog w = .ok (decide (a = b ∧ n = m)) w := by
  unfold Op.equal
  rw [show Op.maxDepth = (9998 + 1) + 1 from rfl]
  have e1 := eq_ptr a b w ha hb 9998
  have e2 := eq_int n m w 9998
  have p0 := part0 a n w
  have p1 := part1 a n w
  have q0 := part0 b m w
  have q1 := part1 b m w
  have hs := stood147
  unfold Op.equalIn
  simp only [run_underlying Tryz.underlying147, Sem.run_bind, Result.andThen_ok]
  by_cases h1 : a = b
  · by_cases h2 : n = m
    · subst h1; subst h2
      simp at e1 e2
      simp [hs, ← Array.forIn_toList, p0, p1, e1, e2]
    · subst h1
      have h2' : ¬ (n : Int) = m := by omega
      simp [h2'] at e1 e2
      simp [hs, ← Array.forIn_toList, p0, p1, q0, q1, e1, e2, h2]
  · simp [h1] at e1 e2
    simp [hs, ← Array.forIn_toList, p0, q0, e1, h1]
end Go.Proofs.YticjhkfidgkecaaGreatDoor
