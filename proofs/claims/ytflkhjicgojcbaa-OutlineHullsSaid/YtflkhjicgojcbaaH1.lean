import Derived.Test.YtflkhjicgojcbaaM3
namespace Go.Proofs.Ytflkhjicgojcbaa
open Go.RowKit Go.Shelf

/-- all sides of l have p to their left, or on them -/
def Hold (l : List Geo.XY) (p : Geo.XY) : Prop := ∀ i, i < l.length → 0 ≤ Geo.Cross (Geo.X l i) (Geo.X l ((i + 1) % l.length)) p
instance (l : List Geo.XY) (p : Geo.XY) : Decidable (Hold l p) := by unfold Hold; infer_instance
def holdB (l : List Geo.XY) (p : Geo.XY) : Bool := decide (Hold l p)
theorem holdB_no {l : List Geo.XY} {p : Geo.XY} (h : ¬ Hold l p) : Ending.returned (.bool false) = .returned (.bool (holdB l p)) := by unfold holdB; rw [decide_eq_false h]
theorem holdB_yes {l : List Geo.XY} {p : Geo.XY} (h : Hold l p) : Ending.returned (.bool true) = .returned (.bool (holdB l p)) := by unfold holdB; rw [decide_eq_true h]

set_option maxHeartbeats 1000000 in
theorem inside_any (A : Option Addr) (l : List Geo.XY) (c : Nat) (px py : Int) (w : World) (hr : Pts w A l) (hl : l.length ≤ 64) (hin : AllIn l) (p1 : -100000 ≤ px) (p2 : px ≤ 100000) (p3 : -100000 ≤ py) (p4 : py ≤ 100000) :
    Calls Try.prog 83 #[.slice A l.length c, .agg #[.int .i64 px, .int .i64 py]] w fun e w' => e = .returned (.bool (holdB l (px, py))) ∧ Below w.heap.size w w' := by
  have HR := Lib.hid hr
  have HIN := Lib.hid hin
  clear hr hin
  go_enter Try.func83, Try.ntmps83
  go_wp2
  obtain ⟨W1, hW1⟩ : ∃ W1, W1 = w.alloc (.cells #[.int .i64 px, .int .i64 py] 38) := ⟨_, rfl⟩
  have bP : Blk W1 w.heap.size 38 #[.int .i64 px, .int .i64 py] := by rw [hW1]; exact Blk.new _ _ _
  have hB1 : Below w.heap.size w W1 := by rw [hW1]; exact (Below.refl _ _).alloc (Nat.le_refl _) _
  rw [← hW1]
  clear hW1
  have BP := Lib.hid bP
  clear bP
  go_loopw [8] (fun i wr => ∃ k : Nat, k ≤ l.length ∧ i = .int .i64 k ∧ (∀ j, j < k → 0 ≤ Geo.Cross (Geo.X l j) (Geo.X l ((j + 1) % l.length)) (px, py)) ∧ Below W1.heap.size W1 wr) (fun i _ => l.length - (intOf i).toNat)
  case atStart => exact ⟨0, Nat.zero_le _, rfl, fun j hj => absurd hj (by omega), Below.refl _ _⟩
  case round =>
    obtain ⟨k, hk, rfl, hJ, hB⟩ := hrel
    have HJ := Lib.hid hJ
    clear hJ
    by_cases hlt : k < l.length
    · rcases HR.out with h0 | ⟨b, off, rfl, hb, hc⟩
      · rw [h0] at hlt; simp at hlt
      obtain ⟨m, hm⟩ : ∃ m, m = (k + 1) % l.length := ⟨_, rfl⟩
      have hml : m < l.length := by rw [hm]; exact Nat.mod_lt _ (by omega)
      have HM := Lib.hid hm
      have hBw := hB1.trans (hB.mono hB1.size)
      have d1 := (BP.out.below hB BP.out.lt).cell 0
      have d2 := (BP.out.below hB BP.out.lt).cell 1
      simp only [List.getElem?_toArray, List.getElem?_cons_zero, List.getElem?_cons_succ] at d1 d2
      have f5 : ∀ s : Ext wr, s.w.cell? ⟨w.heap.size, 0, none⟩ = some (.int .i64 px) := fun s => s.cell d1
      have f6 : ∀ s : Ext wr, s.w.cell? ⟨w.heap.size, 1, none⟩ = some (.int .i64 py) := fun s => s.cell d2
      have f1 : ∀ s : Ext wr, s.w.cell? ⟨b, off + k * 2, none⟩ = some (.int .i64 (Geo.X l k).1) := fun s => s.cell ((hBw.cell (p := ⟨b, off + k * 2, none⟩) hb).trans (hc k hlt).1)
      have f2 : ∀ s : Ext wr, s.w.cell? ⟨b, off + k * 2 + 1, none⟩ = some (.int .i64 (Geo.X l k).2) := fun s => s.cell ((hBw.cell (p := ⟨b, off + k * 2 + 1, none⟩) hb).trans (hc k hlt).2)
      have f3 : ∀ s : Ext wr, s.w.cell? ⟨b, off + m * 2, none⟩ = some (.int .i64 (Geo.X l m).1) := fun s => s.cell ((hBw.cell (p := ⟨b, off + m * 2, none⟩) hb).trans (hc m hml).1)
      have f4 : ∀ s : Ext wr, s.w.cell? ⟨b, off + m * 2 + 1, none⟩ = some (.int .i64 (Geo.X l m).2) := fun s => s.cell ((hBw.cell (p := ⟨b, off + m * 2 + 1, none⟩) hb).trans (hc m hml).2)
      clear d1 d2 hc
      have e3 : ((k : Int) + 1) % (l.length : Int) = (m : Int) := by rw [hm]; simp
      have e2 : ((k : Int) + 1).tmod (l.length : Int) = (m : Int) := by rw [Int.tmod_eq_emod_of_nonneg (show (0 : Int) ≤ (k : Int) + 1 by omega)]; exact e3
      have e1 : IntKind.i64.wrap ((k : Int) + 1) = (k : Int) + 1 := IntWalk.i64_in _ (by omega)
      have e4 : ¬ (l.length : Int) = 0 := by clear e1 e2 e3; omega
      have e5 : ((l.length : Int) == 0) = false := by simp; clear e1 e2 e3; intro h; rw [h] at hlt; simp at hlt
      have e6 : ¬ l.length = 0 := by clear e1 e2 e3; omega
      have e7 : ¬ l = [] := by intro h; rw [h] at hlt; simp at hlt
      clear hm
      obtain ⟨a1, a2, a3, a4⟩ := in_all HIN.out k
      obtain ⟨a5, a6, a7, a8⟩ := in_all HIN.out m
      by_cases hcr : ((Geo.X l m).1 - (Geo.X l k).1) * (py - (Geo.X l k).2) - ((Geo.X l m).2 - (Geo.X l k).2) * (px - (Geo.X l k).1) < 0
      · have hv : ¬ Hold l (px, py) := fun hv => by
          have := hv k hlt
          rw [← HM.out] at this
          unfold Geo.Cross at this
          simp only at this
          clear e1 e2 e3
          omega
        have H := Lib.hid (holdB_no hv)
        clear hv
        go_wp2
        refine wp_region_ext (by kernel_rfl) (by kernel_rfl) ?_
        repeat (go_big_quiet_step ((go_at_call 62; refine calls_ext (cross_any _ _ _ _ _ _ (by clear e1 e2 e3; omega) (by clear e1 e2 e3; omega) (by clear e1 e2 e3; omega) (by clear e1 e2 e3; omega) (by clear e1 e2 e3; omega) (by clear e1 e2 e3; omega) (by clear e1 e2 e3; omega) (by clear e1 e2 e3; omega) (by clear e1 e2 e3; omega) (by clear e1 e2 e3; omega) (by clear e1 e2 e3; omega) (by clear e1 e2 e3; omega) _))))
        refine wpQuiet_nil ?_
        rintro _ ⟨s, rfl⟩
        go_wp2
        go_ret
        exact ⟨H.out, hBw.trans (s.h.mono hBw.size)⟩
      · have H := Lib.hid hcr
        go_wp2
        refine wp_region_ext (by kernel_rfl) (by kernel_rfl) ?_
        repeat (go_big_quiet_step ((go_at_call 62; refine calls_ext (cross_any _ _ _ _ _ _ (by clear e1 e2 e3; omega) (by clear e1 e2 e3; omega) (by clear e1 e2 e3; omega) (by clear e1 e2 e3; omega) (by clear e1 e2 e3; omega) (by clear e1 e2 e3; omega) (by clear e1 e2 e3; omega) (by clear e1 e2 e3; omega) (by clear e1 e2 e3; omega) (by clear e1 e2 e3; omega) (by clear e1 e2 e3; omega) (by clear e1 e2 e3; omega) _))))
        refine wpQuiet_nil ?_
        rintro _ ⟨s, rfl⟩
        clear e1 e2 e3
        go_wp2
        go_roundw
        case rel => exact ⟨k + 1, by omega, by go_num, fun q hq => by
          by_cases e : q = k
          · subst e; rw [← HM.out]; unfold Geo.Cross; have := H.out; simp only; omega
          · exact HJ.out q (by omega), hB.trans (s.h.mono hB.size)⟩
        case measure => simp [intOf]; omega
    · obtain rfl : k = l.length := by omega
      have H := Lib.hid (holdB_yes (show Hold l (px, py) from HJ.out))
      have hBw := hB1.trans (hB.mono hB1.size)
      go_wp2
      go_ret
      exact ⟨H.out, hBw⟩
end Go.Proofs.Ytflkhjicgojcbaa
