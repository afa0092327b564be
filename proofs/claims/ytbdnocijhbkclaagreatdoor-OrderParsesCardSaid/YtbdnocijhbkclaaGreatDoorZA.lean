/- Merged: Z4 Z5. -/
import Derived.Test.YtbdnocijhbkclaaGreatDoorZ2
import Derived.RangeFuncNested
import Derived.RangeFuncBox
import Derived.LoopIn
import Derived.Maps.AppendAt
/- slices.Chunk of words, by 4; a region that draws its order in a round of a range over a function. -/
namespace Go.Proofs.YtbdnocijhbkclaaGreatDoor
open Go.RowKit Go.Shelf
attribute [local go_sem] Oper.semAt_some

set_option maxRecDepth 100000 in
set_option maxHeartbeats 1000000 in
theorem chunk_in (n : Nat) (a : Option Addr) (len cap : Nat) (w : World) :
    CallsIn Fence.wide n Tryz.prog 43 #[.slice a len cap, .int .i64 4] w fun e w' => e = .returned (.func (.func 64) #[] #[.pointer (some ⟨w.heap.size, 0, none⟩), .pointer (some ⟨w.heap.size + 1, 0, none⟩)]) ∧ w' = (w.alloc (.cells #[.slice a len cap] 55)).alloc (.cells #[.int .i64 4] 3) := by
  have q : ((w.alloc (.cells #[.slice a len cap] 55)).alloc (.cells #[.int .i64 4] 3)).cell? ⟨w.heap.size + 1, 0, none⟩ = some (.int .i64 4) := by
    have := (Blk.new (w.alloc (.cells #[.slice a len cap] 55)) 3 #[.int .i64 4]).cell 0
    rwa [World.size_alloc] at this
  refine callsIn_of_wp Tryz.func43 rfl trivial ?_ rfl
  simp only [Tryz.ntmps43, List.size_toArray, List.length_cons, List.length_nil, Nat.reduceAdd, Nat.reduceSub, Array.replicate_succ, Array.replicate_zero, List.push_toArray, List.append_toArray, List.nil_append, List.cons_append]
  gi_wp2
  go_ret
  exact ⟨rfl, rfl⟩
def upF (m k : Nat) : List (Fin m) := (List.finRange m).take k
theorem upF_zero (m : Nat) : upF m 0 = [] := rfl
theorem upF_len {m k : Nat} (h : k ≤ m) : (upF m k).length = k := by unfold upF; rw [List.length_take, List.length_finRange]; omega
theorem upF_succ {m k : Nat} (h : k < m) : upF m (k + 1) = upF m k ++ [⟨k, h⟩] := by
  unfold upF
  rw [List.take_succ_eq_append_getElem (by rw [List.length_finRange]; exact h)]
  simp
theorem upF_all (m : Nat) : upF m m = List.finRange m := by unfold upF; exact List.take_of_length_le (by rw [List.length_finRange]; omega)
/-- behind a round the two boxes hold what they held -/
def KeepsC (n₀ Bs : Nat) (W W' : World) : Prop := Below n₀ W W' ∧ W'.heap[Bs]? = W.heap[Bs]? ∧ W'.heap[Bs + 1]? = W.heap[Bs + 1]?
theorem KeepsC.trans {n₀ Bs : Nat} {A B C : World} (h : KeepsC n₀ Bs A B) (k : KeepsC n₀ Bs B C) : KeepsC n₀ Bs A C := ⟨h.1.trans k.1, k.2.1.trans h.2.1, k.2.2.trans h.2.2⟩
theorem KeepsC.refl (n₀ Bs : Nat) (W : World) : KeepsC n₀ Bs W W := ⟨Below.refl _ _, rfl, rfl⟩
set_option maxRecDepth 100000 in
set_option maxHeartbeats 4000000 in
theorem chunk1_in (n : Nat) (hn1 : 1 ≤ n) (l Bs n₀ b off cap m M : Nat) (A : Option Addr) (hA : 0 < m → A = some ⟨b, off, none⟩) (hM : M = m * 4) (hm : m ≤ 700) (hcap : M ≤ cap) (J Jx : List (Fin m) → World → Prop)
    (hY : ∀ pre x W, J pre W → pre.length < m → YieldAt Fence.wide (n - 1) Tryz.prog l #[.slice (some ⟨b, off + x.1 * 4, none⟩) 4 4] W fun e W' =>
      (e = .returned (.bool true) ∧ J (pre ++ [x]) W' ∧ KeepsC n₀ Bs W W') ∨ (e = .returned (.bool false) ∧ Jx (pre ++ [x]) W'))
    (hJd : ∀ pre W', J pre W' → J pre W'.drew) (W : World)
    (hc1 : W.cell? ⟨Bs, 0, none⟩ = some (.slice A M cap)) (hc2 : W.cell? ⟨Bs + 1, 0, none⟩ = some (.int .i64 4)) (h0 : J [] W) :
    CallsIn Fence.wide n Tryz.prog 64 #[.func (.yield l) #[] #[], .pointer (some ⟨Bs, 0, none⟩), .pointer (some ⟨Bs + 1, 0, none⟩)] W fun e W' => (∃ v, e = .returned v) ∧
      ((∃ ys, ys = List.finRange m ∧ J ys W') ∨ (∃ pre, True ∧ Jx pre W')) := by
  have HM := Lib.hid hM
  have HA := Lib.hid hA
  have hM2 : M ≤ 2800 := by omega
  clear hM hA
  refine callsIn_of_wp Tryz.func64 rfl trivial ?_ rfl
  simp only [Tryz.ntmps64, List.size_toArray, List.length_cons, List.length_nil, Nat.reduceAdd, Nat.reduceSub, Array.replicate_succ, Array.replicate_zero, List.push_toArray, List.append_toArray, List.nil_append, List.cons_append]
  gi_wp2
  gi_loopw [4, 5] (fun i _ wr => ∃ k j : Nat, k ≤ m ∧ j = k * 4 ∧ i = .int .i64 j ∧ J (upF m k) wr ∧ wr.cell? ⟨Bs, 0, none⟩ = some (.slice A M cap) ∧ wr.cell? ⟨Bs + 1, 0, none⟩ = some (.int .i64 4))
    (fun i _ _ => M - (intOf i).toNat)
  case atStart => exact ⟨0, 0, Nat.zero_le _, rfl, rfl, h0, hc1, hc2⟩
  case round =>
    clear h0 hc1 hc2
    obtain ⟨k, j, hk, hj, rfl, hJs, hc1, hc2⟩ := hrel
    by_cases hlt : k < m
    · obtain rfl := HA.out (by omega)
      have hj4 : j + 4 ≤ M := by have := HM.out; omega
      have HJ := Lib.hid hj
      have hjI : (j : Int) < (M : Int) := by omega
      have hjI2 : (j : Int) ≤ (M : Int) := by omega
      have g1 : IntKind.i64.wrap ((j : Int) + 4) = (j : Int) + 4 := IntWalk.i64_in _ (by omega)
      have g2 : (4 : Int) ≤ (M : Int) - (j : Int) := by omega
      have g3 : (j : Int) + 4 ≤ (M : Int) := by omega
      have g4 : (j : Int) + 4 ≤ (cap : Int) := by omega
      have g5 : min (4 : Int) ((M - j : Nat) : Int) = 4 := by omega
      have g6 : ((j : Int) + 4).toNat - j = 4 := by omega
      have HU := Lib.hid (upF_succ hlt)
      have hd1 : wr.drew.cell? ⟨Bs, 0, none⟩ = some (.slice (some ⟨b, off, none⟩) M cap) := hc1
      have hd2 : wr.drew.cell? ⟨Bs + 1, 0, none⟩ = some (.int .i64 4) := hc2
      obtain ⟨fn, tmps, assign, body, hy, hR⟩ := hY _ ⟨k, hlt⟩ wr.drew (hJd _ _ hJs) (by rw [upF_len hk]; exact hlt)
      have HR := Lib.hid hR
      clear hR
      rw [show off + (⟨k, hlt⟩ : Fin m).1 * 4 = off + j by rw [HJ.out]] at hy
      clear hj
      gi_wp2
      refine wpIn_wide.2 ?_
      refine wp_region_held (S := fun W => W.cell? ⟨Bs, 0, none⟩ = some (.slice (some ⟨b, off, none⟩) M cap) ∧ W.cell? ⟨Bs + 1, 0, none⟩ = some (.int .i64 4)) (by kernel_rfl) ?_
      change wpAnyH _ _ _ _ _ _ _ _ (World.drew _)
      have hS : (fun W : World => W.cell? ⟨Bs, 0, none⟩ = some (.slice (some ⟨b, off, none⟩) M cap) ∧ W.cell? ⟨Bs + 1, 0, none⟩ = some (.int .i64 4)) wr.drew := ⟨hd1, hd2⟩
      generalize wr.drew = Wd at *
      refine wpAnyH_take (i := 0) (v := ?_) rfl (by kernel_rfl) (by decide +kernel) (by decide +kernel) (fun _ _ _ h => h) (Or.inl ⟨by rfl, ?_⟩) hS ?_
      rotate_left
      · intro w' hS; have e0 := hS.1; have e1 := hS.2; first | (go_simp; done) | (go_simp; with_reducible rfl)
      refine wpAnyH_take (i := 1) (v := ?_) rfl (by kernel_rfl) (by decide +kernel) (by decide +kernel) (fun _ _ _ h => h) (Or.inl ⟨by rfl, ?_⟩) hS ?_
      rotate_left
      · intro w' hS; have e0 := hS.1; have e1 := hS.2; first | (go_simp; done) | (go_simp; with_reducible rfl)
      refine wpAnyH_take (i := 2) (v := ?_) rfl (by kernel_rfl) (by decide +kernel) (by decide +kernel) (fun _ _ _ h => h) (Or.inl ⟨by rfl, ?_⟩) hS ?_
      rotate_left
      · intro w' hS; first | (go_simp; done) | (go_simp; with_reducible rfl)
      refine wpAnyH_take (i := 3) (v := ?_) rfl (by kernel_rfl) (by decide +kernel) (by decide +kernel) (fun _ _ _ h => h) (Or.inl ⟨by rfl, ?_⟩) hS ?_
      rotate_left
      · intro w' hS; first | (go_simp; done) | (go_simp; with_reducible rfl)
      refine wpAnyH_take (i := 4) (v := ?_) rfl (by kernel_rfl) (by decide +kernel) (by decide +kernel) (fun _ _ _ h => h) (Or.inl ⟨by rfl, ?_⟩) hS ?_
      rotate_left
      · intro w' hS; first | (go_simp; done) | (go_simp; with_reducible rfl)
      refine wpAnyH_take (i := 5) (v := ?_) rfl (by kernel_rfl) (by decide +kernel) (by decide +kernel) (fun _ _ _ h => h) (Or.inl ⟨by rfl, ?_⟩) hS ?_
      rotate_left
      · intro w' hS; first | (go_simp; done) | (go_simp; with_reducible rfl)
      refine wpAnyH_all (rs := [6]) (by decide +kernel) (by simp) ?_
      intro i0 hi0
      obtain rfl := List.mem_singleton.1 hi0
      refine wpOp_goE rfl rfl (fun K hK => ?_)
      go_simp
      refine hK _ _ ⟨hS, ?_⟩
      clear hK K
      refine wpAnyH_done (by decide +kernel) ?_ _
      gi_wp2
      refine HR.out.mono ?_
      rintro e W3 (⟨rfl, hJ3, hk3⟩ | ⟨rfl, hJx3⟩)
      · have hc1 : W3.cell? ⟨Bs, 0, none⟩ = some (.slice (some ⟨b, off, none⟩) M cap) := by
          have := hS.1
          simp only [World.cell?, hk3.2.1] at this ⊢
          exact this
        have hc2 : W3.cell? ⟨Bs + 1, 0, none⟩ = some (.int .i64 4) := by
          have := hS.2
          simp only [World.cell?, hk3.2.2] at this ⊢
          exact this
        gi_wp2
        go_roundw
        case rel => exact ⟨k + 1, j + 4, by omega, by have := HJ.out; omega, by go_num, by rw [HU.out]; exact hJ3, hc1, hc2⟩
        case measure => simp [intOf]; omega
      · gi_wp2
        refine bodyPost_ret (results_none rfl _ _ _) rfl ?_
        exact ⟨⟨_, rfl⟩, .inr ⟨_, trivial, hJx3⟩⟩
    · obtain rfl : k = m := by omega
      obtain rfl : j = M := by have := HM.out; omega
      rw [upF_all] at hJs
      gi_wp2
      go_end0
      exact ⟨⟨_, rfl⟩, .inl ⟨_, rfl, hJs⟩⟩
theorem chunk_stops (n : Nat) (hn1 : 1 ≤ n) (Bs n₀ b off cap m M : Nat) (A : Option Addr) (hA : 0 < m → A = some ⟨b, off, none⟩) (hM : M = m * 4) (hm : m ≤ 700) (hcap : M ≤ cap) (w : World) (hBs : Bs + 1 < w.heap.size)
    (hc1 : w.cell? ⟨Bs, 0, none⟩ = some (.slice A M cap)) (hc2 : w.cell? ⟨Bs + 1, 0, none⟩ = some (.int .i64 4)) :
    SeqStopsK Fence.wide n Tryz.prog 64 #[.pointer (some ⟨Bs, 0, none⟩), .pointer (some ⟨Bs + 1, 0, none⟩)] (fun x : Fin m => #[Value.slice (some ⟨b, off + x.1 * 4, none⟩) 4 4]) (KeepsC n₀ Bs) (fun ys => ys = List.finRange m) (fun _ => True) m w := fun l J Jx W hW hJ _ hY h0 =>
  chunk1_in n hn1 l Bs n₀ b off cap m M A hA hM hm hcap J Jx hY (fun pre W' h => hJ _ _ _ none h ⟨rfl, rfl, rfl, Nat.le_refl _, fun _ _ _ => rfl⟩ (fun r e => by cases e)) W
    ((hW.cell (p := ⟨Bs, 0, none⟩) (by show Bs < _; omega)).trans hc1) ((hW.cell (p := ⟨Bs + 1, 0, none⟩) hBs).trans hc2) h0
end Go.Proofs.YtbdnocijhbkclaaGreatDoor
/- A region that draws its order, in a round of a range over a function, as one outside of it. -/
namespace Go.Proofs.YtbdnocijhbkclaaGreatDoor
open Go.RowKit Go.Shelf

theorem round_op {P : Program} {o : Oper} {a : Act} {w : World} {K : Act → World → Prop} {Q : Exit → Act → World → Prop} {l n : Nat} (hd : ∀ c, o.op ≠ .defer c) (h : o.wp P a w K Q) : o.wpIn (Fence.wide.inRound l) n P a w K Q := by
  refine ⟨fun _ _ => trivial, ?_⟩
  rw [show (Fence.wide.inRound l).round = some l from rfl, Oper.semAt_some l _ _ hd]
  unfold Oper.wp at h
  generalize (execOp a.eval o).run P w = r at *
  cases r with
  | ok x w' =>
    cases x with
    | value v => exact h
    | skip => exact h
    | defer d => exact h
    | enter f args => exact ⟨fun e => (by cases e), CallsIn.inRound l (callsIn_wide.2 h)⟩
    | row row args => exact ⟨fun e => (by cases e), fun c cs _ => by
        obtain ⟨v, w', r, s⟩ := h c cs
        exact ⟨v, w', r, stepsIn_wide.2 s⟩⟩
    | _ => exact h.elim
  | halt x w' => cases x <;> first | exact h | exact h.elim
theorem round_any {P : Program} {md : Region.Mode} {ops : Array Oper} {Q : Exit → Act → World → Prop} {l n : Nat} (hL : ∀ a w, ¬ Q .outgrown a w) (hd : ∀ (i : Nat) (o : Oper), ops[i]? = some o → ∀ c, o.op ≠ .defer c) :
    ∀ (fuel : Nat) (listed : Array Bool) (a : Act) (w : World), wpAny P md ops Q fuel listed a w → wpAnyIn (Fence.wide.inRound l) n P md ops Q fuel listed a w
  | 0, _, _, _, h => h
  | fuel + 1, listed, a, w, h => ⟨h.1, fun i hi => by
    have h1 := h.2 i hi
    unfold wpOpIn
    unfold wpOp at h1
    cases ho : ops[i]? with
    | none => rw [ho] at h1; exact round_any hL hd fuel _ _ _ h1
    | some o =>
      rw [ho] at h1
      dsimp only at h1 ⊢
      split
      · rename_i hw
        rw [if_pos hw] at h1
        exact Oper.wpIn_mono (fun a w k => round_any hL hd fuel _ a w k) (round_op (hd i o ho) (h1.resolve_right fun h => by obtain ⟨_, a, w, q⟩ := h; exact hL a w q))
      · rename_i hw
        rw [if_neg hw] at h1
        exact ⟨fun _ _ => trivial, round_any hL hd fuel _ _ _ h1⟩⟩
/-- no operation defers a call -/
def noDefer (ops : Array Oper) : Bool := ops.all fun o => match o.op with
  | .defer _ => false
  | _ => true
theorem noDefer_spec {ops : Array Oper} (h : noDefer ops = true) (i : Nat) (o : Oper) (ho : ops[i]? = some o) (c : Call) : o.op ≠ .defer c := fun e => by
  unfold noDefer at h
  rw [Array.all_eq_true] at h
  obtain ⟨hi, rfl⟩ := Array.getElem?_eq_some_iff.1 ho
  have := h i hi
  rw [e] at this
  cases this
theorem wpIn_region_held {P : Program} {id : Nat} {ops : Array Oper} {S : World → Prop} {Q : Exit → Act → World → Prop} {a : Act} {w : World} {l n : Nat} (hm : P.follows .mixedOrders = true) (hd : noDefer ops = true) (hL : ∀ a w, ¬ Q .outgrown a w)
    (h : wpAnyH P .any ops Q S ops.size (Array.replicate ops.size false) a { w with drawn := w.drawn + 1 }) : (Code.region id ops true).wpIn (Fence.wide.inRound l) n P Q a w :=
  wpIn_region_any hm (round_any hL (noDefer_spec hd) _ _ _ _ (wpAny_of_held _ _ _ _ h))
end Go.Proofs.YtbdnocijhbkclaaGreatDoor
