import Derived.RangeFuncNested
import Derived.RangeFuncBound
import Derived.RangeFuncCalls
import Derived.RangeFuncLeaves
import Derived.Shelf.Abstract
import Derived.Shelf.RegionOpen
import Derived.OwnWalkIn
import Derived.TacticsInMore
import Derived.LoopNIn
import Derived.LoopIn
import Derived.Test.YthabpgclnbmnpaaGreatDoorA2
namespace Go.Proofs.YthabpgclnbmnpaaGreatDoor
open Go.RowKit Go.Shelf
attribute [local go_sem] Oper.semAt_some

/-- side k of a list of corners: its two ends -/
def sideEnc (l : List Geo.XY) (k : Nat) : Array Value := #[.agg #[.int .i64 (Geo.X l k).1, .int .i64 (Geo.X l k).2], .agg #[.int .i64 (Geo.X l ((k + 1) % l.length)).1, .int .i64 (Geo.X l ((k + 1) % l.length)).2]]

/-- what a round keeps: all that lay below n₀, and block Bs -/
def KeepsO (n₀ Bs : Nat) (W W' : World) : Prop := Below n₀ W W' ∧ W'.heap[Bs]? = W.heap[Bs]?
theorem KeepsO.trans {n₀ Bs : Nat} {A B C : World} (h : KeepsO n₀ Bs A B) (k : KeepsO n₀ Bs B C) : KeepsO n₀ Bs A C := ⟨h.1.trans k.1, k.2.trans h.2⟩
theorem KeepsO.refl (n₀ Bs : Nat) (A : World) : KeepsO n₀ Bs A A := ⟨Below.refl _ _, rfl⟩
theorem KeepsO.drew {n₀ Bs : Nat} {A B : World} (h : KeepsO n₀ Bs A B) : KeepsO n₀ Bs A B.drew := ⟨h.1.drew, h.2⟩
theorem KeepsO.alloc {n₀ Bs : Nat} {A B : World} (h : KeepsO n₀ Bs A B) (h1 : n₀ ≤ B.heap.size) (h2 : Bs < B.heap.size) (o : Obj) : KeepsO n₀ Bs A (B.alloc o) := ⟨h.1.alloc h1 o, (Below.heap_alloc B o Bs h2).trans h.2⟩

/-- how a round is left: on, or for good -/
def Went (J Jx : List Nat → World → Prop) (pre : List Nat) (n₀ Bs : Nat) (W : World) (bb : Bool) (W' : World) : Prop :=
  (bb = true ∧ J pre W' ∧ KeepsO n₀ Bs W W') ∨ (bb = false ∧ Jx pre W')

set_option maxRecDepth 100000 in
set_option maxHeartbeats 1000000 in
theorem sides1_in (n : Nat) (l Bs n₀ b off cap : Nat) (zs : List Geo.XY) (hz : 0 < zs.length) (hreach : zs.length ≤ 64) (hb : b < n₀)  (J Jx : List Nat → World → Prop)
    (hY : ∀ pre x W, J pre W → pre.length < zs.length → YieldAt Fence.wide (n - 1) Tryz.prog l (sideEnc zs x) W fun e W' =>
      (e = .returned (.bool true) ∧ J (pre ++ [x]) W' ∧ KeepsO n₀ Bs W W') ∨ (e = .returned (.bool false) ∧ Jx (pre ++ [x]) W'))
    (hJ : ∀ pre W o, J pre W → J pre (W.alloc o)) (hJd : ∀ pre W, J pre W → J pre W.drew)
    (W : World) (hn₀ : n₀ ≤ W.heap.size) (hBl : Bs < W.heap.size) (hBs : W.cell? ⟨Bs, 0, none⟩ = some (.slice (some ⟨b, off, none⟩) zs.length cap))
    (hc : ∀ k, k < zs.length → W.cell? ⟨b, off + k * 2, none⟩ = some (.int .i64 (Geo.X zs k).1) ∧ W.cell? ⟨b, off + k * 2 + 1, none⟩ = some (.int .i64 (Geo.X zs k).2)) (h0 : J [] W) :
    CallsIn Fence.wide n Tryz.prog 61 #[.func (.yield l) #[] #[], .pointer (some ⟨Bs, 0, none⟩)] W fun e W' => (∃ v, e = .returned v) ∧
      ((∃ ys, ys = List.range zs.length ∧ J ys W') ∨ (∃ pre, (∃ k, k ≤ zs.length ∧ pre = List.range k) ∧ Jx pre W')) := by
  have HC := Lib.hid hc
  clear hc
  refine callsIn_of_wp Tryz.func61 rfl trivial ?_ rfl
  simp only [Tryz.ntmps61, List.size_toArray, List.length_cons, List.length_nil, Nat.reduceAdd, Nat.reduceSub, Array.replicate_succ, Array.replicate_zero, List.push_toArray, List.append_toArray, List.nil_append, List.cons_append]
  gi_wp2
  gi_loopw [7] (fun i wr => ∃ k : Nat, k ≤ zs.length ∧ i = .int .i64 k ∧ J (List.range k) wr ∧ KeepsO n₀ Bs W wr)
    (fun i _ => zs.length - (intOf i).toNat)
  case atStart => exact ⟨0, Nat.zero_le _, rfl, h0, KeepsO.refl _ _ _⟩
  case round =>
    obtain ⟨k, hk, rfl, hJs, hnx⟩ := hrel
    by_cases hlt : k < zs.length
    · have c1 : wr.cell? ⟨b, off + k * 2, none⟩ = some (.int .i64 (Geo.X zs k).1) := (hnx.1.cell (p := ⟨b, off + k * 2, none⟩) hb).trans (HC.out k hlt).1
      have c2 : wr.cell? ⟨b, off + k * 2 + 1, none⟩ = some (.int .i64 (Geo.X zs k).2) := (hnx.1.cell (p := ⟨b, off + k * 2 + 1, none⟩) hb).trans (HC.out k hlt).2
      have c3 : wr.cell? ⟨Bs, 0, none⟩ = some (.slice (some ⟨b, off, none⟩) zs.length cap) := (World.cell?_of_block (w := W) (a := ⟨Bs, 0, none⟩) hnx.2).trans hBs
      obtain ⟨m, hm⟩ : ∃ m, m = (k + 1) % zs.length := ⟨_, rfl⟩
      have hml : m < zs.length := by rw [hm]; exact Nat.mod_lt _ hz
      have HM := Lib.hid hm
      have e3 : ((k : Int) + 1) % (zs.length : Int) = (m : Int) := by rw [hm]; simp
      have e2 : ((k : Int) + 1).tmod (zs.length : Int) = (m : Int) := by rw [Int.tmod_eq_emod_of_nonneg (show (0 : Int) ≤ (k : Int) + 1 by omega)]; exact e3
      have e1 : IntKind.i64.wrap ((k : Int) + 1) = (k : Int) + 1 := IntWalk.i64_in _ (by omega)
      have e4 : ¬ (zs.length : Int) = 0 := by omega
      have e4 : ¬ (zs.length : Int) = 0 := by clear e1 e2 e3; omega
      have e6 : ¬ zs.length = 0 := by omega
      have e7 : ¬ zs = [] := by intro h; rw [h] at hz; simp at hz
      clear hm
      gi_wp2
      obtain ⟨W2, hW2⟩ : ∃ W2, W2 = wr.alloc (.cells #[.int .i64 (Geo.X zs k).1, .int .i64 (Geo.X zs k).2] 42) := ⟨_, rfl⟩
      have hb2 : KeepsO n₀ Bs W W2 := by rw [hW2]; exact hnx.alloc (Nat.le_trans hn₀ hnx.1.size) (Nat.lt_of_lt_of_le hBl hnx.1.size) _
      have hJ2 : J (List.range k) W2 := by rw [hW2]; exact hJ _ _ _ hJs
      have f5 : W2.cell? ⟨wr.heap.size, 0, none⟩ = some (.int .i64 (Geo.X zs k).1) := by rw [hW2]; go_simp
      have f6 : W2.cell? ⟨wr.heap.size, 1, none⟩ = some (.int .i64 (Geo.X zs k).2) := by rw [hW2]; go_simp
      rw [← hW2]
      clear hW2 c1 c2 c3
      have c1 : W2.cell? ⟨b, off + m * 2, none⟩ = some (.int .i64 (Geo.X zs m).1) := (hb2.1.cell (p := ⟨b, off + m * 2, none⟩) hb).trans (HC.out m hml).1
      have c2 : W2.cell? ⟨b, off + m * 2 + 1, none⟩ = some (.int .i64 (Geo.X zs m).2) := (hb2.1.cell (p := ⟨b, off + m * 2 + 1, none⟩) hb).trans (HC.out m hml).2
      have c3 : W2.cell? ⟨Bs, 0, none⟩ = some (.slice (some ⟨b, off, none⟩) zs.length cap) := (World.cell?_of_block (w := W) (a := ⟨Bs, 0, none⟩) hb2.2).trans hBs
      obtain ⟨fn, tmps, assign, body, hy, hR⟩ := hY _ k W2.drew (hJd _ _ hJ2) (by rw [List.length_range]; exact hlt)
      dsimp only [sideEnc] at hy
      rw [← HM.out] at hy
      have hR' := hR.mono (R' := fun e W' => ∃ bb : Bool, e = .returned (.bool bb) ∧ Went J Jx (List.range k ++ [k]) n₀ Bs W2 bb W') (by
        rintro e W' (⟨h1, h2, h3⟩ | ⟨h1, h2⟩)
        · exact ⟨true, h1, .inl ⟨rfl, h2, ((KeepsO.refl n₀ Bs W2).drew).trans h3⟩⟩
        · exact ⟨false, h1, .inr ⟨rfl, h2⟩⟩)
      have HR := Lib.hid hR'
      clear hR' hR
      have hmix : Tryz.prog.follows .mixedOrders = true := by kernel_rfl
      gi_region_with_o ((refine ⟨fun h => (by cases h), ?_⟩; refine HR.out.mono ?_; rintro e W3 ⟨bb, rfl, hG⟩))
      all_goals
        rcases hG with ⟨rfl, hJ3, hk3⟩ | ⟨rfl, hJx3⟩
        · gi_wp2
          go_roundw
          case rel => exact ⟨k + 1, by omega, by simp, by rw [List.range_succ]; exact hJ3, hb2.trans hk3⟩
          case measure => simp [intOf]; omega
        · gi_wp2
          refine bodyPost_ret (results_none rfl _ _ _) rfl ?_
          exact ⟨⟨_, rfl⟩, .inr ⟨_, ⟨k + 1, by omega, List.range_succ.symm⟩, hJx3⟩⟩
    · obtain rfl : k = zs.length := by omega
      gi_wp2
      go_end0
      exact ⟨⟨_, rfl⟩, .inl ⟨_, rfl, hJs⟩⟩
end Go.Proofs.YthabpgclnbmnpaaGreatDoor
