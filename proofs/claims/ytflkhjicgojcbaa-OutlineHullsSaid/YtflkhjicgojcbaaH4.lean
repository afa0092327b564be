import Derived.Test.YtflkhjicgojcbaaH3
namespace Go.Proofs.Ytflkhjicgojcbaa
open Go.RowKit Go.Shelf

theorem holds_b (p : Geo.XY) (A : Option Addr) (l : List Geo.XY) (c : Nat) (w : World) (hr : Pts w A l) (hv : Valid l) (p1 : -100000 ≤ p.1) (p2 : p.1 ≤ 100000) (p3 : -100000 ≤ p.2) (p4 : p.2 ≤ 100000) (r : Bool) (h : holdB l p = r) :
    Calls Try.prog 82 #[.slice A l.length c, .agg #[.int .i64 p.1, .int .i64 p.2]] w fun e w' => e = .returned (.bool r) ∧ Below w.heap.size w w' := by
  subst h
  rcases hr with h | ⟨b, off, rfl, hb, hc⟩
  · have := hv.1; rw [h] at this; simp at this
  · exact callsIn_wide.1 (holds_in b off c l p hv.1 hv.2.1 hv.allin p1 p2 p3 p4 w hb hc)

set_option maxHeartbeats 1000000 in
theorem holdsall_any (A A' : Option Addr) (o l : List Geo.XY) (c c' : Nat) (w : World) (ho : Pts w A o) (hr : Pts w A' l) (hol : o.length ≤ 64) (hv : Valid l) (hino : AllIn o) :
    Calls Try.prog 84 #[.slice A' l.length c', .slice A o.length c] w fun e w' => e = .returned (.bool (holdAllB l o)) ∧ Below w.heap.size w w' := by
  have HO := Lib.hid ho
  have HR := Lib.hid hr
  have HINO := Lib.hid hino
  have HV := Lib.hid hv
  clear ho hr hv hino
  go_enter Try.func84, Try.ntmps84
  go_wp2
  go_loopw [9] (fun i wr => ∃ k : Nat, k ≤ o.length ∧ i = .int .i64 k ∧ (∀ j, j < k → holdB l (Geo.X o j) = true) ∧ Below w.heap.size w wr) (fun i _ => o.length - (intOf i).toNat)
  case atStart => exact ⟨0, Nat.zero_le _, rfl, fun j hj => absurd hj (by omega), Below.refl _ _⟩
  case round =>
    obtain ⟨k, hk, rfl, hJ, hB⟩ := hrel
    have HJ := Lib.hid hJ
    clear hJ
    by_cases hlt : k < o.length
    · rcases HO.out with h0 | ⟨b, off, rfl, hb, hc⟩
      · rw [h0] at hlt; simp at hlt
      have c1 : wr.cell? ⟨b, off + k * 2, none⟩ = some (.int .i64 (Geo.X o k).1) := (hB.cell (p := ⟨b, off + k * 2, none⟩) hb).trans (hc k hlt).1
      have c2 : wr.cell? ⟨b, off + k * 2 + 1, none⟩ = some (.int .i64 (Geo.X o k).2) := (hB.cell (p := ⟨b, off + k * 2 + 1, none⟩) hb).trans (hc k hlt).2
      clear hc
      obtain ⟨a1, a2, a3, a4⟩ := in_all HINO.out k
      have hBa := hB.alloc hB.size (.cells #[.int .i64 (Geo.X o k).1, .int .i64 (Geo.X o k).2] 38)
      cases hh : holdB l (Geo.X o k) with
      | false =>
        have H := Lib.hid (holdAllB_no (l := l) (q := o) (fun hv => by have := hv k hlt; rw [hh] at this; cases this))
        have HH := Lib.hid hh
        clear hh
        go_wp2_with (go_at_call 82; refine (holds_b (Geo.X o k) _ _ _ _ (HR.out.below hBa) HV.out (by omega) (by omega) (by omega) (by omega) false HH.out).mono ?_; rintro e w' ⟨rfl, hb'⟩)
        go_ret
        exact ⟨H.out, hBa.trans (hb'.mono hBa.size)⟩
      | true =>
        have HH := Lib.hid hh
        clear hh
        go_wp2_with (go_at_call 82; refine (holds_b (Geo.X o k) _ _ _ _ (HR.out.below hBa) HV.out (by omega) (by omega) (by omega) (by omega) true HH.out).mono ?_; rintro e w' ⟨rfl, hb'⟩)
        go_roundw
        case rel => exact ⟨k + 1, by omega, by go_num, fun j hj => by
          by_cases e : j = k
          · subst e; exact HH.out
          · exact HJ.out j (by omega), hBa.trans (hb'.mono hBa.size)⟩
        case measure => simp [intOf]; omega
    · obtain rfl : k = o.length := by omega
      have H := Lib.hid (holdAllB_yes (show HoldAll l o from HJ.out))
      go_wp2
      go_ret
      exact ⟨H.out, hB⟩

def rchD (l : List Geo.XY) (u v : Int) : Nat → Int
  | 0 => (Geo.X l 0).1 * u + (Geo.X l 0).2 * v
  | k + 1 => if rchD l u v k < (Geo.X l k).1 * u + (Geo.X l k).2 * v then (Geo.X l k).1 * u + (Geo.X l k).2 * v else rchD l u v k
theorem rchD_eq (l : List Geo.XY) (u v : Int) (k : Nat) : rchD l u v k = rchK l u v k := by
  induction k with
  | zero => simp only [rchD, rchK, Int.mul_comm]
  | succ k ih => rw [rchD, rchK, ih, Int.mul_comm _ u, Int.mul_comm _ v]

set_option maxHeartbeats 1000000 in
theorem reach_any (A : Option Addr) (l : List Geo.XY) (c : Nat) (u v : Int) (w : World) (hr : Pts w A l) (h0 : 0 < l.length) (hl : l.length ≤ 64) (hin : AllIn l) (u1 : -10000 ≤ u) (u2 : u ≤ 10000) (v1 : -10000 ≤ v) (v2 : v ≤ 10000) :
    Calls Try.prog 80 #[.slice A l.length c, .agg #[.int .i64 u, .int .i64 v]] w fun e w' => e = .returned (.int .i64 (rchK l u v l.length)) ∧ Below w.heap.size w w' := by
  have HIN := Lib.hid hin
  clear hin
  rcases hr with hr | ⟨b, off, rfl, hb, hc⟩
  · rw [hr] at h0; simp at h0
  have HC := Lib.hid hc
  have c1 : w.cell? ⟨b, off, none⟩ = some (.int .i64 (Geo.X l 0).1) := by have := (hc 0 h0).1; rwa [Nat.zero_mul, Nat.add_zero] at this
  have c2 : w.cell? ⟨b, off + 1, none⟩ = some (.int .i64 (Geo.X l 0).2) := by have := (hc 0 h0).2; rwa [Nat.zero_mul, Nat.add_zero] at this
  clear hc
  obtain ⟨a1, a2, a3, a4⟩ := in_all HIN.out 0
  have e4 : (0 : Int) < (l.length : Int) := by omega
  have e5 : (1 : Int) ≤ (l.length : Int) := by omega
  have e6 : ¬ l = [] := by intro h; rw [h] at h0; simp at h0
  go_enter Try.func80, Try.ntmps80
  go_wp2
  obtain ⟨W1, hW1⟩ : ∃ W1, W1 = w.alloc (.cells #[.int .i64 u, .int .i64 v] 38) := ⟨_, rfl⟩
  have bP : Blk W1 w.heap.size 38 #[.int .i64 u, .int .i64 v] := by rw [hW1]; exact Blk.new _ _ _
  have hB1 : Below w.heap.size w W1 := by rw [hW1]; exact (Below.refl _ _).alloc (Nat.le_refl _) _
  rw [← hW1]
  clear hW1
  have BP := Lib.hid bP
  clear bP
  have f1 : ∀ s : Ext W1, s.w.cell? ⟨b, off, none⟩ = some (.int .i64 (Geo.X l 0).1) := fun s => s.cell ((hB1.cell (p := ⟨b, off, none⟩) hb).trans c1)
  have f2 : ∀ s : Ext W1, s.w.cell? ⟨b, off + 1, none⟩ = some (.int .i64 (Geo.X l 0).2) := fun s => s.cell ((hB1.cell (p := ⟨b, off + 1, none⟩) hb).trans c2)
  have f3 : ∀ s : Ext W1, s.w.cell? ⟨w.heap.size, 0, none⟩ = some (.int .i64 u) := fun s => s.cell (BP.out.cell 0)
  have f4 : ∀ s : Ext W1, s.w.cell? ⟨w.heap.size, 1, none⟩ = some (.int .i64 v) := fun s => s.cell (BP.out.cell 1)
  clear c1 c2
  refine wp_region_ext (by kernel_rfl) (by kernel_rfl) ?_
  repeat (go_big_quiet_step ((go_at_call 93; refine calls_ext (dot_any _ _ _ _ (by omega) (by omega) (by omega) (by omega) (by omega) (by omega) (by omega) (by omega) _))))
  refine wpQuiet_nil ?_
  rintro _ ⟨s, rfl⟩
  clear f1 f2 f3 f4
  have hBs := s.h
  go_wp2
  go_loopw [5, 15] (fun r i wr => ∃ k : Nat, k ≤ l.length ∧ i = .int .i64 k ∧ r = .int .i64 (rchD l u v k) ∧ Below W1.heap.size W1 wr) (fun _ i _ => l.length - (intOf i).toNat)
  case atStart => exact ⟨0, Nat.zero_le _, rfl, rfl, hBs⟩
  case round =>
    obtain ⟨k, hk, rfl, rfl, hB⟩ := hrel
    have hBw := hB1.trans (hB.mono hB1.size)
    by_cases hlt : k < l.length
    · have c1 : wr.cell? ⟨b, off + k * 2, none⟩ = some (.int .i64 (Geo.X l k).1) := (hBw.cell (p := ⟨b, off + k * 2, none⟩) hb).trans (HC.out k hlt).1
      have c2 : wr.cell? ⟨b, off + k * 2 + 1, none⟩ = some (.int .i64 (Geo.X l k).2) := (hBw.cell (p := ⟨b, off + k * 2 + 1, none⟩) hb).trans (HC.out k hlt).2
      have d1 := (BP.out.below hB BP.out.lt).cell 0
      have d2 := (BP.out.below hB BP.out.lt).cell 1
      have d3 := (BP.out.below hB BP.out.lt).lt
      have d4 : ¬ w.heap.size = wr.heap.size := by omega
      simp only [List.getElem?_toArray, List.getElem?_cons_zero, List.getElem?_cons_succ] at d1 d2
      obtain ⟨b1, b2, b3, b4⟩ := in_all HIN.out k
      obtain ⟨m5, m6⟩ := rchK_bd HIN.out u1 u2 v1 v2 k
      rw [← rchD_eq] at m5 m6
      go_wp2_with (go_at_call 93; refine (dot_any _ _ _ _ (by omega) (by omega) (by omega) (by omega) (by omega) (by omega) (by omega) (by omega) _).mono ?_; rintro e w' ⟨rfl, hb'⟩)
      go_roundw
      case rel => exact ⟨k + 1, by omega, by go_num, rfl, (hB.alloc hB.size _).trans (hb'.mono (by simp; have := hB.size; omega))⟩
      case measure => simp [intOf]; omega
    · obtain rfl : k = l.length := by omega
      have H := Lib.hid (rchD_eq l u v l.length)
      go_wp2
      go_ret
      exact ⟨by rw [← H.out]; rfl, hBw⟩
end Go.Proofs.Ytflkhjicgojcbaa
