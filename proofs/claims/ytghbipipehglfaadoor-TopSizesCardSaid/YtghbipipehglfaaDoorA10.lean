/- The library's Collect, Sorted, Backward, Reverse at numbers. -/
import Derived.Test.YtghbipipehglfaaDoorA9
namespace Go.Proofs.YtghbipipehglfaaDoor
open Go.RowKit Go.Shelf
attribute [local go_sem] Oper.semAt_some

set_option maxHeartbeats 1000000 in
theorem collect_in (n : Nat) (hn : 4 ≤ n) (n₀ : Nat) (g : Nat) (lb : Array Value) (eg : ∀ args w, (callFunc g args).run Tryd.prog w = .ok (.enter g args) w) (xs : List Int) (hN : xs.length ≤ 1000) (w : World) (hn₀ : n₀ ≤ w.heap.size) (Sp : List Int → Prop)
    (hseq : ∀ W1, Below w.heap.size w W1 → SeqStopsK Fence.wide (n - 1 - 1) Tryd.prog g lb (fun x : Int => #[Value.int .i64 x]) (Below n₀) (fun ys => ys = xs) Sp xs.length W1) :
    CallsIn Fence.wide n Tryd.prog 74 #[.func (.func g) #[] lb] w fun e W' => ∃ v, e = .returned v ∧ W'.ownsRow w.heap.size 3 1 v xs.length (ints xs) ∧ Below w.heap.size w W' := by
  have h1 : 1 ≤ n := by omega
  have hf1 : Fence.wide.fn 89 := trivial
  refine callsIn_of_wp Tryd.func74 rfl trivial ?_ rfl
  simp only [Tryd.ntmps74, List.size_toArray, List.length_cons, List.length_nil, Nat.reduceAdd, Nat.reduceSub, Array.replicate_succ, Array.replicate_zero, List.push_toArray, List.append_toArray, List.nil_append, List.cons_append]
  gi_wp2_with (gi_at_call 89; refine (appendseq_in (n - 1) (by omega) n₀ g lb eg xs hN _ hn₀ Sp hseq).mono ?_; rintro e w' ⟨v, rfl, hrow, hb⟩)
  go_ret
  exact ⟨v, rfl, hrow, hb⟩

set_option maxHeartbeats 1000000 in
/-- slices.Sorted: what the iterator gives, sorted -/
theorem sorted_in (n : Nat) (hn : 5 ≤ n) (n₀ : Nat) (g : Nat) (lb : Array Value) (eg : ∀ args w, (callFunc g args).run Tryd.prog w = .ok (.enter g args) w) (xs : List Int) (hN : xs.length ≤ 1000) (w : World) (hn₀ : n₀ ≤ w.heap.size) (Sp : List Int → Prop)
    (hseq : ∀ W1, Below w.heap.size w W1 → SeqStopsK Fence.wide (n - 1 - 1 - 1) Tryd.prog g lb (fun x : Int => #[Value.int .i64 x]) (Below n₀) (fun ys => ys = xs) Sp xs.length W1) :
    CallsIn Fence.wide n Tryd.prog 81 #[.func (.func g) #[] lb] w fun e W' => ∃ v, e = .returned v ∧ W'.ownsRow w.heap.size 3 1 v xs.length (ints (Pl.srt xs)) ∧ Below w.heap.size w W' := by
  have h1 : 1 ≤ n := by omega
  have hf1 : Fence.wide.fn 74 := trivial
  have hf2 : Fence.wide.fn 94 := trivial
  refine callsIn_of_wp Tryd.func81 rfl trivial ?_ rfl
  simp only [Tryd.ntmps81, List.size_toArray, List.length_cons, List.length_nil, Nat.reduceAdd, Nat.reduceSub, Array.replicate_succ, Array.replicate_zero, List.push_toArray, List.append_toArray, List.nil_append, List.cons_append]
  gi_wp2_with (gi_at_call 74; refine (collect_in (n - 1) (by omega) n₀ g lb eg xs hN _ hn₀ Sp hseq).mono ?_; rintro e W ⟨v, rfl, hrow, hb⟩; rcases hrow.2 with ⟨rfl, hz⟩ | ⟨gb, cap, cur, rfl, hbase, hgb, r1, r2, r3, r4⟩)
  · have hxs : xs = [] := List.eq_nil_of_length_eq_zero hz
    subst hxs
    gi_wp2_with (gi_at_call 94; refine (callsIn_wide.2 (Tryd.slices_Sort_int_none none 0 W)).mono ?_; rintro e w' ⟨rfl, rfl⟩)
    go_ret
    exact ⟨.slice none 0 0, rfl, by rw [show Pl.srt [] = [] from by simp [Pl.srt]]; exact World.ownsRow_nil _ _ _ _, hb⟩
  · have hH := holds_of_blockI (ss := xs) hgb (by simpa using r4)
    have hgl : gb < W.heap.size := (Array.getElem?_eq_some_iff.1 hgb).1
    have hsz : xs.length < 4611686018427387904 := by omega
    have cS := callsIn_wide (n := n - 1) |>.2 (Tryd.slices_Sort_int gb 0 cap xs W hH hgl hsz)
    gi_wp2_with (gi_at_call 94; refine cS.mono ?_; rintro e w' ⟨rfl, nn, os, rfl⟩)
    go_ret
    refine ⟨_, rfl, ?_, hb.grown (grownBy_sortedI _) hb.size (fun k e => by cases e; exact hbase)⟩
    exact ownsRow_sortedI (by simp) hbase hgb r1 r2 r3

/-- slices.Sorted(slices.Values(list)) -/
theorem sortedv_any (Bs : Nat) (A : Option Addr) (cap : Nat) (zs : List Int) (hreach : zs.length ≤ 1000) (w : World) (hBs : Blk w Bs 31 #[.slice A zs.length cap]) (hI : Ints w A zs) :
    Calls Tryd.prog 81 #[.func (.func 95) #[] #[.pointer (some ⟨Bs, 0, none⟩)]] w fun e W' => ∃ v, e = .returned v ∧ W'.ownsRow w.heap.size 3 1 v zs.length (ints (Pl.srt zs)) ∧ Below w.heap.size w W' := by
  refine (callsIn_wide (n := 6)).1 ?_
  refine sorted_in 6 (by omega) w.heap.size 95 _ (enters_of Tryd.func95 (by kernel_rfl) rfl) zs hreach w (Nat.le_refl _) (fun pre => pre <+: zs) (fun W1 hb => ?_)
  exact values_stops 3 (by omega) Bs w.heap.size A cap zs hreach W1 w (Nat.lt_of_lt_of_le hBs.lt hb.size) rfl hb ((hb.cell (p := ⟨Bs, 0, none⟩) hBs.lt).trans (hBs.cell 0)) hI

/-- nothing below n₀ has turned but block B -/
structure Frm (n₀ B : Nat) (W W' : World) : Prop where
  os : W'.os = W.os
  tape : W'.tape = W.tape
  output : W'.output = W.output
  size : W.heap.size ≤ W'.heap.size
  block : ∀ k, k < n₀ → k ≠ B → W'.heap[k]? = W.heap[k]?
theorem Frm.refl (n₀ B : Nat) (W : World) : Frm n₀ B W W := ⟨rfl, rfl, rfl, Nat.le_refl _, fun _ _ _ => rfl⟩
theorem Frm.trans {n₀ B : Nat} {X Y Z : World} (h : Frm n₀ B X Y) (k : Frm n₀ B Y Z) : Frm n₀ B X Z := ⟨k.os.trans h.os, k.tape.trans h.tape, k.output.trans h.output, Nat.le_trans h.size k.size, fun j h1 h2 => (k.block j h1 h2).trans (h.block j h1 h2)⟩
theorem Frm.of_below {n₀ B : Nat} {X Y : World} (h : Below n₀ X Y) : Frm n₀ B X Y := ⟨h.os, h.tape, h.output, h.size, fun k h1 _ => h.block k h1⟩
theorem Frm.of_only {n₀ B : Nat} {X Y : World} (h : Only B X Y) : Frm n₀ B X Y := ⟨h.os, h.tape, h.output, by rw [h.size]; exact Nat.le_refl _, fun k _ h1 => h.block k h1⟩
theorem Frm.below {n₀ B m : Nat} {X Y : World} (h : Frm n₀ B X Y) (h1 : m ≤ n₀) (h2 : m ≤ B) : Below m X Y := ⟨h.os, h.tape, h.output, h.size, fun k hk => h.block k (by omega) (by omega)⟩
theorem Frm.cell {n₀ B : Nat} {X Y : World} (h : Frm n₀ B X Y) {p : Addr} (h1 : p.block < n₀) (h2 : p.block ≠ B) : Y.cell? p = X.cell? p := World.cell?_of_block (h.block _ h1 h2)
theorem Frm.grown {n₀ B : Nat} {X Y Z : World} {row : Option Nat} (h : Frm n₀ B X Y) (hg : Y.grownBy Z row) (hn : n₀ ≤ Y.heap.size) (hr : ∀ r, row = some r → n₀ ≤ r) : Frm n₀ B X Z :=
  ⟨hg.os.trans h.os, hg.tape.trans h.tape, hg.output.trans h.output, Nat.le_trans h.size hg.size, fun k h1 h2 => (hg.block k (by omega) (fun e => by have := hr k e.symm; omega)).trans (h.block k h1 h2)⟩
theorem frm_b {n₀ B : Nat} {w : World} (hn : n₀ ≤ w.heap.size) (W : World) (l : Nat) (o o' : Obj) (hl : w.heap.size ≤ l) (h : W.heap[l]? = some o) (h1 : o.isCells = false) (h2 : o.isWalk = false) : Frm n₀ B W (W.putObj l o') :=
  .of_below (belowK_b hn W l o o' hl h h1 h2)
theorem ownFrom_frm {β : Type} {n₀ B C : Nat} {w₀ : World} (hn : n₀ ≤ w₀.heap.size) (hB : n₀ ≤ C) : OwnFrom C (fun (_ : β) W => Frm n₀ B w₀ W) :=
  fun _ _ _ _ hs hg hr => hs.grown hg (Nat.le_trans hn hs.size) (fun k e => Nat.le_trans hB (hr k e).1)

/-- a number with its index, as the iterator gives it -/
def bwEnc (zs : List Int) (i : Nat) : Array Value := #[.int .i64 (i : Int), .int .i64 (zs.getD i 0)]

set_option maxRecDepth 100000 in
set_option maxHeartbeats 2000000 in
theorem backward1_in (n : Nat) (hn : 1 ≤ n) (l Bs n₀ B b off cap : Nat) (zs : List Int) (hreach : zs.length ≤ 1000) (hb : b < n₀) (hbB : b ≠ B) (hBs : Bs < n₀) (hBsB : Bs ≠ B) (J Jx : List Nat → World → Prop)
    (hY : ∀ pre x W, J pre W → pre.length < zs.length → YieldAt Fence.wide (n - 1) Tryd.prog l (bwEnc zs x) W fun e W' =>
      (e = .returned (.bool true) ∧ J (pre ++ [x]) W' ∧ Frm n₀ B W W') ∨ (e = .returned (.bool false) ∧ Jx (pre ++ [x]) W'))
    (W : World) (hcs : W.cell? ⟨Bs, 0, none⟩ = some (.slice (some ⟨b, off, none⟩) zs.length cap)) (hc : ∀ j, j < zs.length → W.cell? ⟨b, off + j, none⟩ = some (.int .i64 (zs.getD j 0))) (h0 : J [] W) :
    CallsIn Fence.wide n Tryd.prog 93 #[.func (.yield l) #[] #[], .pointer (some ⟨Bs, 0, none⟩)] W fun e W' => (∃ v, e = .returned v) ∧
      ((∃ ys, ys = upto (fun j => zs.length - 1 - j) zs.length ∧ J ys W') ∨ (∃ pre, (∃ k, k ≤ zs.length ∧ pre = upto (fun j => zs.length - 1 - j) k) ∧ Jx pre W')) := by
  have HC := Lib.hid hc
  clear hc
  refine callsIn_of_wp Tryd.func93 rfl trivial ?_ rfl
  simp only [Tryd.ntmps93, List.size_toArray, List.length_cons, List.length_nil, Nat.reduceAdd, Nat.reduceSub, Array.replicate_succ, Array.replicate_zero, List.push_toArray, List.append_toArray, List.nil_append, List.cons_append]
  gi_wp2
  gi_loopw [3] (fun i wr => ∃ k : Nat, k ≤ zs.length ∧ i = .int .i64 ((zs.length : Int) - 1 - k) ∧ J (upto (fun j => zs.length - 1 - j) k) wr ∧ Frm n₀ B W wr)
    (fun i _ => (intOf i + 1).toNat)
  case atStart => exact ⟨0, Nat.zero_le _, by simp, h0, Frm.refl _ _ _⟩
  case round =>
    obtain ⟨k, hk, rfl, hJs, hnx⟩ := hrel
    by_cases hlt : k < zs.length
    · obtain ⟨m, hm⟩ : ∃ m, m = zs.length - 1 - k := ⟨_, rfl⟩
      have hml : m < zs.length := by omega
      have hmi : (zs.length : Int) - 1 - (k : Int) = (m : Int) := by omega
      have hcx' : wr.cell? ⟨b, off + m, none⟩ = some (.int .i64 (zs.getD m 0)) := (hnx.cell (p := ⟨b, off + m, none⟩) hb hbB).trans (HC.out m hml)
      have hcb : wr.cell? ⟨Bs, 0, none⟩ = some (.slice (some ⟨b, off, none⟩) zs.length cap) := (hnx.cell (p := ⟨Bs, 0, none⟩) hBs hBsB).trans hcs
      have HU : Hid (upto (fun j => zs.length - 1 - j) (k + 1) = upto (fun j => zs.length - 1 - j) k ++ [m]) := Lib.hid (by rw [upto_succ, hm])
      obtain ⟨fn, tmps, assign, body, hy, hR⟩ := hY _ m wr hJs (by rw [upto_length]; exact hlt)
      have HM := Lib.hid hm
      rw [hmi]
      clear hm hmi
      dsimp only [bwEnc] at hy
      generalize zs.getD m 0 = y at *
      gi_wp2
      refine hR.mono ?_
      rintro e W3 (⟨rfl, hJ3, hk3⟩ | ⟨rfl, hJx3⟩)
      · gi_wp2
        go_roundw
        case rel => exact ⟨k + 1, by omega, by have := HM.out; congr 1; omega, by rw [HU.out]; exact hJ3, hnx.trans hk3⟩
        case measure => simp [intOf]
      · gi_wp2
        refine bodyPost_ret (results_none rfl _ _ _) rfl ?_
        exact ⟨⟨_, rfl⟩, .inr ⟨_, ⟨k + 1, by omega, HU.out.symm⟩, hJx3⟩⟩
    · obtain rfl : k = zs.length := by omega
      have hn : ¬ 0 ≤ (zs.length : Int) - 1 - (zs.length : Int) := by omega
      gi_wp2
      go_end0
      first | exact ⟨⟨_, rfl⟩, .inl ⟨_, rfl, hJs⟩⟩ | exact ⟨⟨_, rfl⟩, .inl hJs⟩ | exact .inl hJs
end Go.Proofs.YtghbipipehglfaaDoor
