/- Small functions of disks and journals. -/
import Derived.Test.YtalfffkcmddakabY2
namespace Go.Proofs.Ytalfffkcmddakab
open Go.RowKit Go.Shelf

set_option maxHeartbeats 400000 in
theorem within_b (n a b : Int) (v : Bool) (hv : Pl.inB a n b = v) (w : World) :
    Calls Try.prog 62 #[.int .i64 n, .int .i64 a, .int .i64 b] w fun e w' => e = .returned (.bool v) ∧ w' = w := by
  by_cases h1 : a ≤ n
  · have HV : Hid (v = decide (n ≤ b)) := Lib.hid (by rw [← hv]; unfold Pl.inB; rw [decide_eq_true h1]; rfl)
    clear hv
    go_enter Try.func62, Try.ntmps62
    go_wp2
    go_ret
    exact ⟨by rw [HV.out]; rfl, rfl⟩
  · have HV : Hid (v = false) := Lib.hid (by rw [← hv]; unfold Pl.inB; rw [decide_eq_false h1]; rfl)
    clear hv
    go_enter Try.func62, Try.ntmps62
    go_wp2
    go_ret
    exact ⟨by rw [HV.out]; rfl, rfl⟩

section
variable {w : World} {b : Nat} {D : Pl.Dk} {v0 v1 : Value} {kp : Int}
set_option maxHeartbeats 400000 in
theorem made_any (h : IsDk w b D v0 v1 kp) : Calls Try.prog 42 #[ptr b] w fun e w' => e = .returned (.bool true) ∧ w' = w := by
  have q0 := h.blk.cell 0
  have h0 : (0 : Int) < (D.st : Nat) := by have := h.st; omega
  have h0n : 0 < D.st := h.st
  change w.cell? ⟨b, 0, none⟩ = some (.int .i64 (D.st : Nat)) at q0
  clear h
  generalize D.st = st at *
  go_enter Try.func42, Try.ntmps42
  go_wp2
  go_ret
  first | exact ⟨rfl, rfl⟩ | exact ⟨by simp [h0n], rfl⟩
set_option maxHeartbeats 400000 in
theorem down_any (h : IsDk w b D v0 v1 kp) (v : Bool) (hv : (!D.up) = v) : Calls Try.prog 41 #[ptr b] w fun e w' => e = .returned (.bool v) ∧ w' = w := by
  have q1 := h.blk.cell 1
  change w.cell? ⟨b, 1, none⟩ = some (.bool D.up) at q1
  have HV := Lib.hid hv
  have HC := Lib.hid (made_any h)
  clear h hv
  generalize D.up = x at *
  go_enter Try.func41, Try.ntmps41
  go_wp2_with fail
  refine HC.out.mono ?_
  rintro e w1 ⟨rfl, rfl⟩
  go_wp2
  go_ret
  exact ⟨by rw [← HV.out]; rfl, rfl⟩
set_option maxHeartbeats 400000 in
theorem check_b (h : IsDk w b D v0 v1 kp) (i : Int) (v : Int) (hv : Pl.rdE D i = v) : Calls Try.prog 51 #[ptr b, .int .i64 i] w fun e w' => e = .returned (.int .i64 v) ∧ w' = w := by
  have HC0 := Lib.hid (down_any h)
  have HW := Lib.hid (within_b i 0 1 _ rfl w)
  clear h
  unfold Pl.rdE at hv
  cases hu : D.up with
  | false =>
    have HV : Hid (v = 91) := Lib.hid (by rw [hu, if_pos rfl] at hv; exact hv.symm)
    have HC := Lib.hid (HC0.out true (by rw [hu]; rfl))
    clear hv hu HC0
    go_enter Try.func51, Try.ntmps51
    go_wp2_with fail
    refine HC.out.mono ?_
    rintro e w1 ⟨rfl, rfl⟩
    go_wp2
    go_ret
    exact ⟨by rw [HV.out]; rfl, rfl⟩
  | true =>
    have HC := Lib.hid (HC0.out false (by rw [hu]; rfl))
    clear HC0
    rw [hu, if_neg (by decide)] at hv
    obtain ⟨x, hx⟩ : ∃ x, Pl.inB 0 i 1 = x := ⟨_, rfl⟩
    rw [hx] at HW
    have HV : Hid (v = if x then 0 else 2) := Lib.hid (by
      rw [← hv]
      cases x with
      | true => have := Pl.inB_true.1 hx; rw [if_neg (by omega)]; rfl
      | false => have := Pl.inB_false.1 hx; rw [if_pos (by omega)]; rfl)
    clear hv hu hx
    go_enter Try.func51, Try.ntmps51
    go_wp2_with fail
    refine HC.out.mono ?_
    rintro e w1 ⟨rfl, rfl⟩
    go_wp2_with fail
    refine HW.out.mono ?_
    rintro e w1 ⟨rfl, rfl⟩
    cases x
    · go_wp2
      go_ret
      exact ⟨by rw [HV.out]; rfl, rfl⟩
    · go_wp2
      go_ret
      exact ⟨by rw [HV.out]; rfl, rfl⟩
set_option maxHeartbeats 400000 in
theorem arm_any (h : IsDk w b D v0 v1 kp) (n k : Int) (hn : n.toNat ≤ maxLen) : Calls Try.prog 23 #[ptr b, .int .i64 n, .int .i64 k] w fun e w' => e = .returned (.tuple #[]) ∧ IsDk w' b (Pl.armD D n k) v0 v1 k ∧ Fr [b] w w' := by
  have HC := Lib.hid (made_any h)
  have q3 := h.blk.cell 4
  have q4 := h.blk.cell 5
  have f3 := h.blk.frozen 4
  have f4 := h.blk.frozen 5
  have HH := Lib.hid h
  have hm : Hid (max n 0 = ((n.toNat : Nat) : Int)) := Lib.hid (by omega)
  have HHN := Lib.hid hn
  clear h hn
  go_enter Try.func23, Try.ntmps23
  go_wp2_with fail
  refine HC.out.mono ?_
  rintro e w1 ⟨rfl, rfl⟩
  go_wp2
  go_end0
  refine ⟨rfl, ?_⟩
  rw [hm.out]
  have hf : Fr [b] w1 ((w1.setCell ⟨b, 4, none⟩ (.int .i64 (n.toNat : Nat))).setCell ⟨b, 5, none⟩ (.int .i64 k)) := (Fr.setCell w1 b 4 _).trans (Fr.setCell _ b 5 _)
  exact ⟨HH.out.turn hf ((HH.out.blk.set_ 4 _).set_ 5 _) (fun _ => rfl) HH.out.st HHN.out (.inl ⟨rfl, rfl⟩) (.inl ⟨rfl, rfl⟩), hf⟩
end
theorem dk0_is (w : World) : IsDk (w.alloc (.cells (dkA Pl.dk0 (.slice none 0 0) (.slice none 0 0) 0) 39)) w.heap.size Pl.dk0 (.slice none 0 0) (.slice none 0 0) 0 :=
  ⟨Blk.new w _ _, fun _ => rfl, Own8.nil _, Own8.nil _, Nat.le_refl _, Nat.zero_le _⟩
set_option maxHeartbeats 400000 in
theorem newdisk_any (w : World) : Calls Try.prog 11 #[] w fun e w' => e = .returned (ptr w.heap.size) ∧ IsDk w' w.heap.size Pl.dk0 (.slice none 0 0) (.slice none 0 0) 0 ∧ Below w.heap.size w w' := by
  have HH := Lib.hid (dk0_is w)
  have HB := Lib.hid ((Below.refl w.heap.size w).alloc (Nat.le_refl _) (.cells (dkA Pl.dk0 (.slice none 0 0) (.slice none 0 0) 0) 39))
  go_enter Try.func11, Try.ntmps11
  go_wp2
  go_ret
  exact ⟨rfl, HH.out, HB.out⟩
section
variable {w : World} {b j : Nat} {D : Pl.Dk} {J : Pl.Jn} {v v0 v1 : Value} {kp : Int}
set_option maxHeartbeats 400000 in
theorem opened_any (h : IsJn w j b J v) : Calls Try.prog 48 #[ptr j] w fun e w' => e = .returned (.bool true) ∧ w' = w := by
  have q0 := h.blk.cell 0
  clear h
  go_enter Try.func48, Try.ntmps48
  go_wp2
  go_ret
  exact ⟨rfl, rfl⟩
set_option maxHeartbeats 400000 in
theorem turn_any (h : IsJn w j b J v) : Calls Try.prog 28 #[ptr j] w fun e w' => e = .returned (.int .i64 (J.t : Nat)) ∧ w' = w := by
  have HC := Lib.hid (opened_any h)
  have q3 := h.blk.cell 3
  clear h
  go_enter Try.func28, Try.ntmps28
  go_wp2_with fail
  refine HC.out.mono ?_
  rintro e w1 ⟨rfl, rfl⟩
  go_wp2
  go_ret
  exact ⟨rfl, rfl⟩
theorem same_below {f : FuncId} {args : Array Value} {W : World} {r : Ending} (h : Calls Try.prog f args W fun e w' => e = r ∧ w' = W) : Calls Try.prog f args W fun e w' => e = r ∧ Below W.heap.size W w' :=
  h.mono fun _ _ ⟨he, hw⟩ => ⟨he, by rw [hw]; exact Below.refl _ _⟩
set_option maxRecDepth 100000 in
set_option maxHeartbeats 1000000 in
theorem dead_b (h : IsJn w j b J v) (k : IsDk w b D v0 v1 kp) (x : Bool) (hx : Pl.ded D J = x) : Calls Try.prog 26 #[ptr j] w fun e w' => e = .returned (.bool x) ∧ Below w.heap.size w w' := by
  have K := Lib.hid (fun s : Ext w => same_below (opened_any (h.below s.h)))
  have q0 : ∀ s : Ext w, s.w.cell? ⟨j, 0, none⟩ = some (ptr b) := fun s => s.cell (h.blk.cell 0)
  have q1 : ∀ s : Ext w, s.w.cell? ⟨j, 1, none⟩ = some (.int .i64 (J.st : Nat)) := fun s => s.cell (h.blk.cell 1)
  have q2 : ∀ s : Ext w, s.w.cell? ⟨j, 2, none⟩ = some (.bool J.fd) := fun s => s.cell (h.blk.cell 2)
  have p0 : ∀ s : Ext w, s.w.cell? ⟨b, 0, none⟩ = some (.int .i64 (D.st : Nat)) := fun s => s.cell (k.blk.cell 0)
  have HF : Hid (J.fd = true → x = true) := Lib.hid (fun e => by rw [← hx]; unfold Pl.ded; rw [e]; rfl)
  have HG : Hid (J.fd = false → x = decide (J.st ≠ D.st)) := Lib.hid (fun e => by rw [← hx]; unfold Pl.ded; rw [e]; rfl)
  clear h k hx
  generalize J.st = a at *
  generalize D.st = c at *
  generalize J.fd = f at *
  cases f with
  | true =>
    have HV := Lib.hid (HF.out rfl)
    clear HF HG
    go_enter Try.func26, Try.ntmps26
    go_wp2
    refine wp_region_ext (by kernel_rfl) (by kernel_rfl) ?_
    repeat (go_big_quiet_step ((go_at_call 48; refine calls_ext (K.out _))))
    refine wpQuiet_nil ?_
    rintro _ ⟨s, rfl⟩
    go_wp2
    go_ret
    exact ⟨by rw [HV.out]; rfl, s.h⟩
  | false =>
    have HV := Lib.hid (HG.out rfl)
    clear HF HG
    by_cases e1 : a = c
    · subst e1
      go_enter Try.func26, Try.ntmps26
      go_wp2
      refine wp_region_ext (by kernel_rfl) (by kernel_rfl) ?_
      repeat (go_big_quiet_step ((go_at_call 48; refine calls_ext (K.out _))))
      refine wpQuiet_nil ?_
      rintro _ ⟨s, rfl⟩
      go_wp2
      go_ret
      exact ⟨by rw [HV.out]; simp, s.h⟩
    · have HE := Lib.hid e1
      have hb : ((a : Int) != (c : Int)) = true := by simp; omega
      clear e1
      go_enter Try.func26, Try.ntmps26
      go_wp2
      refine wp_region_ext (by kernel_rfl) (by kernel_rfl) ?_
      repeat (go_big_quiet_step ((go_at_call 48; refine calls_ext (K.out _))))
      refine wpQuiet_nil ?_
      rintro _ ⟨s, rfl⟩
      go_wp2
      go_ret
      exact ⟨by rw [HV.out]; simp [HE.out], s.h⟩
end
set_option maxHeartbeats 400000 in
theorem slotof_any (t : Nat) (w : World) : Calls Try.prog 49 #[.int .i64 (t : Nat)] w fun e w' => e = .returned (.int .i64 ((t % 2 : Nat) : Int)) ∧ w' = w := by
  have HV : Hid ((t : Int).tmod 2 = ((t % 2 : Nat) : Int)) := Lib.hid (by rw [Int.tmod_eq_emod_of_nonneg (by omega)]; omega)
  have h0 : (0 : Int) ≤ (t : Int) := by omega
  go_enter Try.func49, Try.ntmps49
  go_wp2
  go_ret
  first | exact ⟨by rw [HV.out], rfl⟩ | exact ⟨by simp, rfl⟩ | exact ⟨by rw [Int.natCast_emod]; rfl, rfl⟩
end Go.Proofs.Ytalfffkcmddakab
