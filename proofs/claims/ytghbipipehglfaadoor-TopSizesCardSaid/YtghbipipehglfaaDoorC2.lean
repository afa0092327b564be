/- The walk through a set: the iterator that indexes gives; the list of a set; the union of sets. -/
import Derived.Test.YtghbipipehglfaaDoorC1
import Derived.Test.YtghbipipehglfaaDoorA10
namespace Go.Proofs.YtghbipipehglfaaDoor
open Go.RowKit Go.Shelf
attribute [local go_sem] Oper.semAt_some

theorem and_low (x : Nat) (hx : x < 2 ^ 40) (h0 : x ≠ 0) : bits BinOp.and IntKind.u64 (x : Int) ((x : Int) - 1) = ((x &&& (x - 1) : Nat) : Int) := by
  rw [show ((x : Int) - 1) = ((x - 1 : Nat) : Int) by omega]
  exact bits_and_u64_nat x _ (by omega) (by omega)

theorem els_mono (s : Nat) {a b : Nat} (h : a ≤ b) : (Pl.els s a).length ≤ (Pl.els s b).length := by
  obtain ⟨e, he, _⟩ := Pl.els_behind (m := s) h
  rw [he, List.length_append]; omega

set_option maxRecDepth 100000 in
set_option maxHeartbeats 2000000 in
theorem indexes1_in (n : Nat) (hn : 2 ≤ n) (l Bs n₀ B s : Nat) (hs : s < 2 ^ 40) (hBs : Bs < n₀) (hBB : Bs ≠ B) (hn0 : 0 < n₀) (hB0 : 0 ≠ B) (J Jx : List Nat → World → Prop)
    (hY : ∀ x W, s.testBit x = true → J (Pl.els s x) W → YieldAt Fence.wide (n - 1) Tryd.prog l #[.int .i64 x] W fun e W' =>
      (e = .returned (.bool true) ∧ J (Pl.els s x ++ [x]) W' ∧ Frm n₀ B W W') ∨ (e = .returned (.bool false) ∧ Jx (Pl.els s x ++ [x]) W'))
    (W : World) (hT : Tab W) (hcs : W.cell? ⟨Bs, 0, none⟩ = some (.int .u64 s)) (h0 : J [] W) :
    CallsIn Fence.wide n Tryd.prog 90 #[.func (.yield l) #[] #[], .pointer (some ⟨Bs, 0, none⟩)] W fun e W' => (∃ v, e = .returned v) ∧
      ((∃ ys, ys = Pl.els s 64 ∧ J ys W') ∨ (∃ pre, (∃ k, pre = Pl.els s k) ∧ Jx pre W')) := by
  have hf1 : Fence.wide.fn 91 := trivial
  have hd : 1 ≤ n := by omega
  refine callsIn_of_wp Tryd.func90 rfl trivial ?_ rfl
  simp only [Tryd.ntmps90, List.size_toArray, List.length_cons, List.length_nil, Nat.reduceAdd, Nat.reduceSub, Array.replicate_succ, Array.replicate_zero, List.push_toArray, List.append_toArray, List.nil_append, List.cons_append]
  gi_wp2
  gi_loopw [3] (fun i wr => ∃ k lf : Nat, i = .int .u64 lf ∧ Hid (Pl.Up s k lf) ∧ J (Pl.els s k) wr ∧ Frm n₀ B W wr)
    (fun i _ => (intOf i).toNat)
  case atStart => exact ⟨0, s, rfl, Lib.hid (Pl.Up.start s), h0, Frm.refl _ _ _⟩
  case round =>
    obtain ⟨k, lf, rfl, hu, hJs, hnx⟩ := hrel
    have hle := hu.out.le
    by_cases hlt : lf = 0
    · subst hlt
      have HE := Lib.hid (hu.out.none (n := 64) (by omega))
      gi_wp2
      go_end0
      exact ⟨⟨_, rfl⟩, .inl ⟨_, rfl, by rw [← HE.out]; exact hJs⟩⟩
    · have h40 : lf < 2 ^ 40 := by omega
      obtain ⟨u1, u2, u3, u4, u5⟩ := hu.out.step hlt (by omega)
      have hAND := and_low lf h40 hlt
      have hne : ((lf : Int) != 0) = true := bne_iff_ne.2 (by omega)
      have hTr : Tab wr := ⟨Nat.lt_of_lt_of_le hT.1 hnx.size, fun j hj => (hnx.cell (p := ⟨0, j, none⟩) hn0 hB0).trans (hT.2 j hj)⟩
      have HTZ := Lib.hid (callsIn_wide (n := n - 1) |>.2 (tz_any lf (by omega) hlt wr hTr))
      have HU := Lib.hid u3
      have HLT := Lib.hid u5
      generalize Lib.ctz 64 lf = t at *
      have hek : Pl.els s t = Pl.els s k := by
        rw [Pl.els_succ, if_pos u4] at u2
        exact List.append_cancel_right u2
      have HN := Lib.hid u2
      rw [← hek] at hJs HN
      obtain ⟨fn, tmps, assign, body, hy, hR⟩ := hY t wr u4 hJs
      have h64 : lf ≤ 1099511627775 := by omega
      have h1 : 1 ≤ lf := by omega
      obtain ⟨m, hm⟩ : ∃ m, lf &&& (lf - 1) = m := ⟨_, rfl⟩
      rw [hm] at hAND HU HLT
      have hcb : wr.cell? ⟨Bs, 0, none⟩ = some (.int .u64 s) := (hnx.cell (p := ⟨Bs, 0, none⟩) hBs hBB).trans hcs
      clear hm hTr hu u2 u3 u5 hle hlt h40 hek h0 hcs
      gi_wp2_with (gi_at_call 91; refine HTZ.out.mono ?_; rintro e w' ⟨rfl, hw'⟩; obtain rfl : wr = w' := hw'.symm)
      refine hR.mono ?_
      rintro e W3 (⟨rfl, hJ3, hk3⟩ | ⟨rfl, hJx3⟩)
      · gi_wp2
        go_roundw
        case rel => exact ⟨t + 1, m, rfl, HU, by rw [HN.out]; exact hJ3, hnx.trans hk3⟩
        case measure => have := HLT.out; simp [intOf]; omega
      · gi_wp2
        refine bodyPost_ret (results_none rfl _ _ _) rfl ?_
        exact ⟨⟨_, rfl⟩, .inr ⟨_, ⟨t + 1, HN.out.symm⟩, hJx3⟩⟩

set_option maxHeartbeats 1000000 in
theorem indexes_in (n : Nat) (s : Nat) (w : World) :
    CallsIn Fence.wide n Tryd.prog 75 #[.int .u64 s] w fun e w' => e = .returned (.func (.func 90) #[] #[.pointer (some ⟨w.heap.size, 0, none⟩)]) ∧ w' = w.alloc (.cells #[.int .u64 s] 62) := by
  refine callsIn_of_wp Tryd.func75 rfl trivial ?_ rfl
  simp only [Tryd.ntmps75, List.size_toArray, List.length_cons, List.length_nil, Nat.reduceAdd, Nat.reduceSub, Array.replicate_succ, Array.replicate_zero, List.push_toArray, List.append_toArray, List.nil_append, List.cons_append]
  gi_wp2
  go_ret
  exact ⟨rfl, rfl⟩

/-- the numbers of indexes -/
def nts (l : List Nat) : List Int := l.map Int.ofNat
theorem nts_snoc (l : List Nat) (x : Nat) : nts (l ++ [x]) = nts l ++ [(x : Int)] := by simp [nts]
theorem nts_len (l : List Nat) : (nts l).length = l.length := List.length_map ..

theorem bit_lt {s n x : Nat} (hs : s < 2 ^ n) (hx : s.testBit x = true) : x < n := by
  apply Nat.lt_of_not_le
  intro hle
  rw [Nat.testBit_lt_two_pow (Nat.lt_of_lt_of_le hs (Nat.pow_le_pow_right (by omega) hle))] at hx
  cases hx
theorem els_len_lt {s n x : Nat} (hs : s < 2 ^ n) (hn : n ≤ 64) (hx : s.testBit x = true) : (Pl.els s x).length < (Pl.els s 64).length := by
  have h1 := bit_lt hs hx
  have h2 := els_mono s (show x + 1 ≤ 64 by omega)
  rw [Pl.els_succ, if_pos hx, List.length_append] at h2
  simp at h2; omega

/-- the walk through a set, as numbers -/
theorem indexes_stops (n : Nat) (hn : 2 ≤ n) (Bs n₀ s : Nat) (hs : s < 2 ^ 40) (w w0 : World) (hBs : Bs < n₀) (hw0 : w0.heap.size = n₀) (hb0 : Below n₀ w0 w) (hT : Tab w0)
    (hc : w0.cell? ⟨Bs, 0, none⟩ = some (.int .u64 s)) :
    SeqStopsK Fence.wide n Tryd.prog 90 #[.pointer (some ⟨Bs, 0, none⟩)] (fun x : Int => #[Value.int .i64 x]) (Below n₀) (fun ys => ys = nts (Pl.els s 64)) (fun _ => True) (nts (Pl.els s 64)).length w := fun l J Jx W hW _ _ hY h0 => by
  have hn₀ : n₀ ≤ w.heap.size := by rw [← hw0] at hb0 ⊢; exact hb0.size
  have hbW : Below n₀ w0 W := hb0.trans (hW.mono hn₀)
  subst hw0
  refine (indexes1_in n hn l Bs w0.heap.size w0.heap.size s hs hBs (by omega) hT.1 (by have := hT.1; omega) (fun pre W => J (nts pre) W) (fun pre W => Jx (nts pre) W) (fun x W1 hx hJ => ?_) W (hT.below hbW) ((hbW.cell (p := ⟨Bs, 0, none⟩) hBs).trans hc) h0).mono ?_
  · have := hY (nts (Pl.els s x)) (x : Int) W1 hJ (by rw [nts_len, nts_len]; exact els_len_lt hs (by omega) hx)
    obtain ⟨fn, tmps, assign, body, hy, hR⟩ := this
    refine ⟨fn, tmps, assign, body, hy, hR.mono ?_⟩
    rintro e W3 (⟨rfl, hJ3, hk3⟩ | ⟨rfl, hJx3⟩)
    · exact .inl ⟨rfl, by rw [nts_snoc]; exact hJ3, Frm.of_below hk3⟩
    · exact .inr ⟨rfl, by rw [nts_snoc]; exact hJx3⟩
  · rintro e W' ⟨he, ⟨ys, rfl, hj⟩ | ⟨pre, _, hj⟩⟩
    · exact ⟨he, .inl ⟨_, rfl, hj⟩⟩
    · exact ⟨he, .inr ⟨_, trivial, hj⟩⟩

set_option maxRecDepth 100000 in
set_option maxHeartbeats 1000000 in
/-- the list of a set -/
theorem list_any (s : Nat) (hs : s < 2 ^ 40) (w : World) (hT : Tab w) :
    Calls Tryd.prog 40 #[.int .u64 s] w fun e w' => ∃ v, e = .returned v ∧ w'.ownsRow w.heap.size 3 1 v (nts (Pl.els s 64)).length (ints (nts (Pl.els s 64))) ∧ Below w.heap.size w w' := by
  have hlen := Pl.els_len s 64
  have hB1 : Below w.heap.size w (w.alloc (.cells #[.int .u64 s] 62)) := (Below.refl _ w).alloc (Nat.le_refl _) _
  have bX := Blk.new w 62 #[.int .u64 s]
  have hT1 : Tab (w.alloc (.cells #[.int .u64 s] 62)) := hT.below hB1
  have HC := Lib.hid (callsIn_wide (n := 6) |>.1 (collect_in 6 (by omega) (w.heap.size + 1) 90 #[.pointer (some ⟨w.heap.size, 0, none⟩)] (enters_of Tryd.func90 (by kernel_rfl) rfl) (nts (Pl.els s 64)) (by rw [nts_len]; omega) (w.alloc (.cells #[.int .u64 s] 62)) (by simp) (fun _ => True)
    (fun W1 hb => indexes_stops 4 (by omega) w.heap.size (w.heap.size + 1) s hs W1 _ (by omega) (by simp) (by simpa using hb) hT1 (bX.cell 0))))
  generalize nts (Pl.els s 64) = L at *
  have HI := Lib.hid (callsIn_wide (n := 6) |>.1 (indexes_in 6 s w))
  clear hT1 hT hs
  go_enter Tryd.func40, Tryd.ntmps40
  go_wp2_with (first | (go_at_call 75; refine HI.out.mono ?_; rintro e w' ⟨rfl, rfl⟩) | (go_at_call 74; refine HC.out.mono ?_; rintro e w2 ⟨v, rfl, hrow, hb2⟩))
  go_ret
  exact ⟨v, rfl, own_mono hrow (by simp), hB1.trans (hb2.mono (by simp))⟩
end Go.Proofs.YtghbipipehglfaaDoor
