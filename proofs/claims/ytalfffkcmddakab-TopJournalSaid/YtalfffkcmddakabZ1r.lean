/- Restart of the program. -/
import Derived.Test.YtalfffkcmddakabZ1
namespace Go.Proofs.Ytalfffkcmddakab
open Go.RowKit Go.Shelf
section
variable {w : World} {b : Nat} {D : Pl.Dk} {v0 v1 : Value} {kp : Int}
set_option maxHeartbeats 400000 in
theorem restart_any (h : IsDk w b D v0 v1 kp) (hs : D.st < 4611686018427387904) : Calls Try.prog 25 #[ptr b] w fun e w' => e = .returned (.tuple #[]) ∧ IsDk w' b (Pl.rsD D) v0 v1 0 ∧ Fr [b] w w' := by
  have HC := Lib.hid (made_any h)
  have HA := Lib.hid (arm_any h 0 0 (Nat.zero_le _))
  clear h
  go_enter Try.func25, Try.ntmps25
  go_wp2_with fail
  refine HC.out.mono ?_
  rintro e w1 ⟨rfl, rfl⟩
  go_wp2_with fail
  refine HA.out.mono ?_
  rintro e w2 ⟨rfl, h2, hf2⟩
  have HH := Lib.hid h2
  have HF := Lib.hid hf2
  have q0 := h2.blk.cell 0
  have q1 := h2.blk.cell 1
  have f0 := h2.blk.frozen 0
  have f1 := h2.blk.frozen 1
  clear h2 hf2
  change w2.cell? ⟨b, 0, none⟩ = some (.int .i64 (D.st : Nat)) at q0
  change w2.cell? ⟨b, 1, none⟩ = some (.bool D.up) at q1
  go_wp2
  go_end0
  refine ⟨rfl, ?_⟩
  have hf : Fr [b] w2 ((w2.setCell ⟨b, 1, none⟩ (.bool true)).setCell ⟨b, 0, none⟩ (.int .i64 ((D.st + 1 : Nat) : Int))) := (Fr.setCell w2 b 1 _).trans (Fr.setCell _ b 0 _)
  have hT := HH.out.turn (D' := Pl.rsD D) (kp' := 0) hf ((HH.out.blk.set_ 1 _).set_ 0 _) (fun h => absurd h (Nat.lt_irrefl 0)) (Nat.succ_pos _) (Nat.zero_le _) (.inl ⟨rfl, rfl⟩) (.inl ⟨rfl, rfl⟩)
  exact ⟨hT, HF.out.trans hf⟩
end
end Go.Proofs.Ytalfffkcmddakab
