/- Sizes compared. -/
import Derived.Test.YtghbipipehglfaaA14
namespace Go.Proofs.Ytghbipipehglfaa
open Go.RowKit Go.Shelf
theorem run_eq22n (d : Nat) (z1 z2 z3 z4 z5 : Int) (w : World) : (Op.equalIn (d + 2) 22 (.agg #[.int .i64 z1, .int .i64 z2, .int .i64 z3, .int .i64 z4, .int .i64 z5]) (.agg #[.int .i64 z1, .int .i64 z2, .int .i64 z3, .int .i64 z4, .int .i64 z5])).run Try.prog w = .ok true w := by
  have u3 := Try.underlying3
  have a3 := Try.isAgg3
  have q3 := Try.sizeOf3
  rw [show d + 2 = (d + 1) + 1 from rfl, Op.equalIn]
  simp only [Sem.run_bind, run_underlying Try.underlying22, Result.andThen_ok]
  simp only [Std.Legacy.Range.forIn_eq_forIn_range', Std.Legacy.Range.size, Nat.sub_zero, Nat.add_sub_cancel, Nat.div_one, List.range'_succ, List.range'_zero, List.forIn_cons, List.forIn_nil]
  go_simp
set_option maxRecDepth 100000 in
theorem run_eq24n (d : Nat) (s : Pl.Sz) (w : World) : (Op.equalIn (d + 2 + 1) 24 (.agg (szA s)) (.agg (szA s))).run Try.prog w = .ok true w := by
  have u3 := Try.underlying3
  have a3 := Try.isAgg3
  have q3 := Try.sizeOf3
  have a22 := Try.isAgg22
  have q22 := Try.sizeOf22
  have ht : Try.prog.underlying 24 = some (.struct (Try.prog.fieldsOf 24)) := by kernel_rfl
  have hp : Try.prog.stoodInHeld 24 = false := by kernel_rfl
  have hf := ht.symm.trans Try.underlying24
  simp only [Option.some.injEq, TypeDesc.struct.injEq] at hf
  rw [run_equalIn_agg _ _ _ _ _ ht hp, hf]
  have h5 := fun z1 z2 z3 z4 z5 w => run_eq22n d z1 z2 z3 z4 z5 w
  clear hf ht hp
  simp only [Op.eqFields]
  go_simp
theorem run_eq24 (s : Pl.Sz) (w : World) : (Op.equalIn 10000 24 (.agg (szA s)) (.agg (szA s))).run Try.prog w = .ok true w := run_eq24n 9997 s w
end Go.Proofs.Ytghbipipehglfaa
