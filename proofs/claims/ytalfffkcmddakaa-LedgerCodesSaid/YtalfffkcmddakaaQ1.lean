/- The document's ValidEntry, like, ahead. -/
import Derived.Test.YtalfffkcmddakaaE2
namespace Go.Proofs.Ytalfffkcmddakaa
open Go.RowKit Go.Shelf

theorem ve_no {e : Pl.En} {v : Bool} (hv : Pl.vE e = v) (h : ¬ Pl.Ve e) : v = false := by
  cases v
  · rfl
  · exact absurd (Pl.ve_iff.1 hv) h
set_option maxRecDepth 100000 in
set_option maxHeartbeats 4000000 in
theorem dventry_b (e : Pl.En) (v : Bool) (hv : Pl.vE e = v) (w : World) : Calls Try.prog 52 #[.agg (enA e)] w fun x w' => x = .returned (.bool v) ∧ Below w.heap.size w w' := by
  have hB := (Below.refl w.heap.size w).alloc (Nat.le_refl _) (.cells (enA e) 24)
  have bX := Blk.new w 24 (enA e)
  have q0 := bX.cell 0
  have q1 := bX.cell 1
  have q2 := bX.cell 2
  have q3 := bX.cell 3
  have HB := Lib.hid hB
  clear hB bX
  have hno : ∀ (h : ¬ Pl.Ve e), v = false := fun h => ve_no hv h
  have HNO := Lib.hid hno
  have HVV := Lib.hid hv
  clear hno hv
  by_cases a1 : e.k < 1
  · have HV := Lib.hid (HNO.out (fun h => by have := h.k1; omega))
    clear HNO HVV
    go_enter Try.func52, Try.ntmps52
    go_wp2
    go_ret
    exact ⟨by rw [HV.out]; rfl, HB.out⟩
  by_cases a2 : 4 < e.k
  · have HV := Lib.hid (HNO.out (fun h => by have := h.k4; omega))
    clear HNO HVV
    go_enter Try.func52, Try.ntmps52
    go_wp2
    go_ret
    exact ⟨by rw [HV.out]; rfl, HB.out⟩
  by_cases a3 : e.r < 1
  · have HV := Lib.hid (HNO.out (fun h => by have := h.r1; omega))
    clear HNO HVV
    go_enter Try.func52, Try.ntmps52
    go_wp2
    go_ret
    exact ⟨by rw [HV.out]; rfl, HB.out⟩
  by_cases a4 : 1000000000 < e.r
  · have HV := Lib.hid (HNO.out (fun h => by have := h.r9; omega))
    clear HNO HVV
    go_enter Try.func52, Try.ntmps52
    go_wp2
    go_ret
    exact ⟨by rw [HV.out]; rfl, HB.out⟩
  by_cases a5 : e.d < 0
  · have HV := Lib.hid (HNO.out (fun h => by have := h.d0; omega))
    clear HNO HVV
    go_enter Try.func52, Try.ntmps52
    go_wp2
    go_ret
    exact ⟨by rw [HV.out]; rfl, HB.out⟩
  by_cases a6 : 100000 < e.d
  · have HV := Lib.hid (HNO.out (fun h => by have := h.d1; omega))
    clear HNO HVV
    go_enter Try.func52, Try.ntmps52
    go_wp2
    go_ret
    exact ⟨by rw [HV.out]; rfl, HB.out⟩
  have r1 : Pl.inB 1 e.r 1000000000 = true := Pl.inB_true.2 (by omega)
  have r2 : Pl.inB 0 e.d 100000 = true := Pl.inB_true.2 (by omega)
  have HW : Hid (Pl.vC e = v) := Lib.hid (by rw [← HVV.out]; unfold Pl.vE; rw [r1, r2]; rfl)
  clear HNO HVV r1 r2
  by_cases h4 : e.k = 4
  · have k4 : (e.k == 4) = true := by rw [h4]; rfl
    have HV : Hid ((e.c == 0) = v) := Lib.hid (by
      rw [← HW.out]; unfold Pl.vC
      rw [Pl.inB_false.2 (show ¬ (1 ≤ e.k ∧ e.k ≤ 3) by omega), decide_eq_true h4]
      by_cases h : e.c = 0 <;> simp [h])
    clear HW h4
    go_enter Try.func52, Try.ntmps52
    go_wp2
    go_ret
    exact ⟨by rw [← HV.out]; rfl, HB.out⟩
  have k4 : (e.k == 4) = false := by simpa using h4
  have HV : Hid (Pl.inB 1 e.c 1000000000 = v) := Lib.hid (by
    rw [← HW.out]; unfold Pl.vC
    rw [Pl.inB_true.2 (show 1 ≤ e.k ∧ e.k ≤ 3 by omega), decide_eq_false h4]
    simp)
  clear HW h4
  by_cases c1 : 1 ≤ e.c
  · by_cases c2 : e.c ≤ 1000000000
    · have HV2 : Hid (v = true) := Lib.hid (by rw [← HV.out]; exact Pl.inB_true.2 ⟨c1, c2⟩)
      clear HV
      go_enter Try.func52, Try.ntmps52
      go_wp2
      go_ret
      exact ⟨by rw [HV2.out]; rfl, HB.out⟩
    · have HV2 : Hid (v = false) := Lib.hid (by rw [← HV.out]; exact Pl.inB_false.2 (by omega))
      clear HV
      go_enter Try.func52, Try.ntmps52
      go_wp2
      go_ret
      exact ⟨by rw [HV2.out]; rfl, HB.out⟩
  · have HV2 : Hid (v = false) := Lib.hid (by rw [← HV.out]; exact Pl.inB_false.2 (by omega))
    clear HV
    go_enter Try.func52, Try.ntmps52
    go_wp2
    go_ret
    exact ⟨by rw [HV2.out]; rfl, HB.out⟩
set_option maxRecDepth 100000 in
set_option maxHeartbeats 2000000 in
theorem like_b (a b : Pl.En) (v : Bool) (hv : decide (Pl.nm a = Pl.nm b) = v) (w : World) : Calls Try.prog 73 #[.agg (enA a), .agg (enA b)] w fun x w' => x = .returned (.bool v) ∧ Below w.heap.size w w' := by
  have hB := ((Below.refl w.heap.size w).alloc (Nat.le_refl _) (.cells (enA a) 24)).alloc (by simp) (.cells (enA b) 24)
  have bX := (Blk.new w 24 (enA a)).alloc (.cells (enA b) 24)
  have bY := Blk.new (w.alloc (.cells (enA a) 24)) 24 (enA b)
  simp only [World.size_alloc] at bY
  have q0 := bX.cell 0
  have q1 := bX.cell 1
  have p0 := bY.cell 0
  have p1 := bY.cell 1
  have HB := Lib.hid hB
  clear hB bX bY
  by_cases h : a.k = b.k
  · have k1 : (a.k == b.k) = true := by simpa using h
    have HV : Hid ((a.r == b.r) = v) := Lib.hid (by
      rw [← hv]
      by_cases h2 : a.r = b.r
      · rw [decide_eq_true (Pl.nm_eq.2 ⟨h, h2⟩)]; simpa using h2
      · rw [decide_eq_false (fun h' => h2 (Pl.nm_eq.1 h').2)]; simpa using h2)
    clear hv h
    go_enter Try.func73, Try.ntmps73
    go_wp2
    go_ret
    exact ⟨by rw [← HV.out]; rfl, HB.out⟩
  · have k1 : (a.k == b.k) = false := by simpa using h
    have HV : Hid (v = false) := Lib.hid (by rw [← hv]; exact decide_eq_false (fun h' => h (Pl.nm_eq.1 h').1))
    clear hv h
    go_enter Try.func73, Try.ntmps73
    go_wp2
    go_ret
    exact ⟨by rw [HV.out]; rfl, HB.out⟩
set_option maxRecDepth 100000 in
set_option maxHeartbeats 2000000 in
theorem ahead_b (a b : Pl.En) (v : Bool) (hv : Pl.lt a b = v) (w : World) : Calls Try.prog 84 #[.agg (enA a), .agg (enA b)] w fun x w' => x = .returned (.bool v) ∧ Below w.heap.size w w' := by
  have hB := ((Below.refl w.heap.size w).alloc (Nat.le_refl _) (.cells (enA a) 24)).alloc (by simp) (.cells (enA b) 24)
  have bX := (Blk.new w 24 (enA a)).alloc (.cells (enA b) 24)
  have bY := Blk.new (w.alloc (.cells (enA a) 24)) 24 (enA b)
  simp only [World.size_alloc] at bY
  have q0 := bX.cell 0
  have q1 := bX.cell 1
  have p0 := bY.cell 0
  have p1 := bY.cell 1
  have HB := Lib.hid hB
  clear hB bX bY
  by_cases h0 : a.k < b.k
  · have HV : Hid (v = true) := Lib.hid (by rw [← hv]; exact Pl.lt_iff.2 (Or.inl h0))
    clear hv
    go_enter Try.func84, Try.ntmps84
    go_wp2
    go_ret
    exact ⟨by rw [HV.out]; rfl, HB.out⟩
  by_cases h : a.k = b.k
  · have k1 : (a.k == b.k) = true := by simpa using h
    by_cases h2 : a.r < b.r
    · have HV : Hid (v = true) := Lib.hid (by rw [← hv]; exact Pl.lt_iff.2 (Or.inr ⟨h, h2⟩))
      clear hv h
      go_enter Try.func84, Try.ntmps84
      go_wp2
      go_ret
      exact ⟨by rw [HV.out]; rfl, HB.out⟩
    · have HV : Hid (v = false) := Lib.hid (by rw [← hv]; exact Pl.lt_iff'.2 (by omega))
      clear hv h
      go_enter Try.func84, Try.ntmps84
      go_wp2
      go_ret
      exact ⟨by rw [HV.out]; rfl, HB.out⟩
  · have k1 : (a.k == b.k) = false := by simpa using h
    have HV : Hid (v = false) := Lib.hid (by rw [← hv]; exact Pl.lt_iff'.2 (by omega))
    clear hv h
    go_enter Try.func84, Try.ntmps84
    go_wp2
    go_ret
    exact ⟨by rw [HV.out]; rfl, HB.out⟩
end Go.Proofs.Ytalfffkcmddakaa
