/- The recipe that every law of the layer reads, and the block that is made of it. -/
import Derived.Test.YticjhkfidgkecaaGreatDoorS1
namespace Go.Proofs.YticjhkfidgkecaaGreatDoor
open Go.RowKit Pl

/-- stack x (a 2 1 1, b 1 1 1) -/
def saneS : List UInt8 := [115, 116, 97, 99, 107, 32, 120, 32, 40, 97, 32, 50, 32, 49, 32, 49, 44, 32, 98, 32, 49, 32, 49, 32, 49, 41]
def hdA : Hd := ⟨1, 0, 97, 2, 1, 1⟩
def hdB : Hd := ⟨1, 0, 98, 1, 1, 1⟩
def hdS : Hd := ⟨2, 0, 0, 0, 0, 0⟩
def saneT : Tree := .node hdS [.node hdA [], .node hdB []]
theorem sane_reads : pRec (saneS.length + 1) saneS = some (saneT, []) := by kernel_rfl
theorem sane_build : BuildC saneT saneV := by
  refine build_step hdS [.node hdA [], .node hdB []] [solidV ⟨2, 1, 1⟩ 0, solidV ⟨1, 1, 1⟩ 1] rfl (by decide) (by decide) (fun k hk => ?_) saneV ⟨3, 1, 1⟩ (stackV_ext ⟨3, 1, 1⟩ 0 (solidV_ext ⟨2, 1, 1⟩ 0) (solidV_ext ⟨1, 1, 1⟩ 1)) (by decide) (by unfold Fits; decide) (fun A c g d w _ hc => ?_)
  · have h : k = 0 ∨ k = 1 := by simp at hk; omega
    rcases h with rfl | rfl
    · exact ⟨158, _, rfl, build_leaf hdA rfl (by decide) (by decide) (by decide) (by unfold Fits; decide)⟩
    · exact ⟨158, _, rfl, build_leaf hdB rfl (by decide) (by decide) (by decide) (by unfold Fits; decide)⟩
  · exact join_stack hdS A 2 c d g rfl (by decide) (solidV ⟨2, 1, 1⟩ 0) (solidV ⟨1, 1, 1⟩ 1) ⟨2, 1, 1⟩ ⟨1, 1, 1⟩ (solidV_ext _ _) (solidV_ext _ _) (by unfold E3r; decide) (by unfold E3r; decide) w (hc 0 _ rfl) (hc 1 _ rfl)
theorem sane_sound : Sound saneT := by
  unfold saneT
  simp only [Sound, SoundL, and_true]
  decide
theorem sane_deep : depth saneT ≤ 16 := by decide
theorem sane_len : LenOk saneT := by
  have leaf : ∀ h, LenOk (.node h []) := fun h => .mk h [] (by simp) (fun p hp => by cases hp)
  refine .mk _ _ (by decide) (fun p hp => ?_)
  simp only [List.mem_cons, List.mem_nil_iff, or_false] at hp
  rcases hp with rfl | rfl <;> exact leaf _
end Go.Proofs.YticjhkfidgkecaaGreatDoor
