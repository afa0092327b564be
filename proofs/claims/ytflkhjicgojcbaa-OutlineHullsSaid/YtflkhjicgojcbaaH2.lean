import Derived.Test.YtflkhjicgojcbaaH1
namespace Go.Proofs.Ytflkhjicgojcbaa
open Go.RowKit Go.Shelf
attribute [local go_sem] Oper.semAt_some

theorem inside_b (p : Geo.XY) (A : Option Addr) (l : List Geo.XY) (c : Nat) (w : World) (hr : Pts w A l) (hl : l.length ≤ 64) (hin : AllIn l) (p1 : -100000 ≤ p.1) (p2 : p.1 ≤ 100000) (p3 : -100000 ≤ p.2) (p4 : p.2 ≤ 100000) (r : Bool) (h : holdB l p = r) :
    Calls Try.prog 83 #[.slice A l.length c, .agg #[.int .i64 p.1, .int .i64 p.2]] w fun e w' => e = .returned (.bool r) ∧ Below w.heap.size w w' := by
  subst h; exact inside_any A l c p.1 p.2 w hr hl hin p1 p2 p3 p4

/-- all places of q are held by l -/
def HoldAll (l q : List Geo.XY) : Prop := ∀ i, i < q.length → holdB l (Geo.X q i) = true
instance (l q : List Geo.XY) : Decidable (HoldAll l q) := by unfold HoldAll; infer_instance
def holdAllB (l q : List Geo.XY) : Bool := decide (HoldAll l q)
theorem holdAllB_no {l q : List Geo.XY} (h : ¬ HoldAll l q) : Ending.returned (.bool false) = .returned (.bool (holdAllB l q)) := by unfold holdAllB; rw [decide_eq_false h]
theorem holdAllB_yes {l q : List Geo.XY} (h : HoldAll l q) : Ending.returned (.bool true) = .returned (.bool (holdAllB l q)) := by unfold holdAllB; rw [decide_eq_true h]

set_option maxHeartbeats 1000000 in
theorem within_any (A A' : Option Addr) (o l : List Geo.XY) (c c' : Nat) (w : World) (ho : Pts w A o) (hr : Pts w A' l) (hol : o.length ≤ 64) (hl : l.length ≤ 64) (hino : AllIn o) (hin : AllIn l) :
    Calls Try.prog 85 #[.slice A o.length c, .slice A' l.length c'] w fun e w' => e = .returned (.bool (holdAllB l o)) ∧ Below w.heap.size w w' := by
  have HO := Lib.hid ho
  have HR := Lib.hid hr
  have HINO := Lib.hid hino
  have HIN := Lib.hid hin
  clear ho hr hin hino
  go_enter Try.func85, Try.ntmps85
  go_wp2
  go_loopw [9] (fun i wr => ∃ k : Nat, k ≤ o.length ∧ i = .int .i64 k ∧ (∀ j, j < k → holdB l (Geo.X o j) = true) ∧ Below w.heap.size w wr) (fun i _ => o.length - (intOf i).toNat)
  case atStart => exact ⟨0, Nat.zero_le _, rfl, fun j hj => absurd hj (by omega), Below.refl _ _⟩
  case round =>
    obtain ⟨k, hk, rfl, hJ, hB⟩ := hrel
    have HJ := Lib.hid hJ
    clear hJ
    by_cases hlt : k < o.length
    · rcases HO.out with h0 | ⟨b, off, rfl, hb, hc⟩
      · rw [h0] at hlt; simp at hlt
      have c1 : wr.cell? ⟨b, off + k * 2, none⟩ = some (.int .i64 (Geo.X o k).1) := (hB.cell (p := ⟨b, off + k * 2, none⟩) hb).trans (hc k hlt).1
      have c2 : wr.cell? ⟨b, off + k * 2 + 1, none⟩ = some (.int .i64 (Geo.X o k).2) := (hB.cell (p := ⟨b, off + k * 2 + 1, none⟩) hb).trans (hc k hlt).2
      clear hc
      obtain ⟨a1, a2, a3, a4⟩ := in_all HINO.out k
      have hBa := hB.alloc hB.size (.cells #[.int .i64 (Geo.X o k).1, .int .i64 (Geo.X o k).2] 38)
      cases hh : holdB l (Geo.X o k) with
      | false =>
        have H := Lib.hid (holdAllB_no (l := l) (q := o) (fun hv => by have := hv k hlt; rw [hh] at this; cases this))
        have HH := Lib.hid hh
        clear hh
        go_wp2_with (go_at_call 83; refine (inside_b (Geo.X o k) _ _ _ _ (HR.out.below hBa) hl HIN.out (by omega) (by omega) (by omega) (by omega) false HH.out).mono ?_; rintro e w' ⟨rfl, hb'⟩)
        go_ret
        exact ⟨H.out, hBa.trans (hb'.mono hBa.size)⟩
      | true =>
        have HH := Lib.hid hh
        clear hh
        go_wp2_with (go_at_call 83; refine (inside_b (Geo.X o k) _ _ _ _ (HR.out.below hBa) hl HIN.out (by omega) (by omega) (by omega) (by omega) true HH.out).mono ?_; rintro e w' ⟨rfl, hb'⟩)
        go_roundw
        case rel => exact ⟨k + 1, by omega, by go_num, fun j hj => by
          by_cases e : j = k
          · subst e; exact HH.out
          · exact HJ.out j (by omega), hBa.trans (hb'.mono hBa.size)⟩
        case measure => simp [intOf]; omega
    · obtain rfl : k = o.length := by omega
      have H := Lib.hid (holdAllB_yes (show HoldAll l o from HJ.out))
      go_wp2
      go_ret
      exact ⟨H.out, hB⟩

/-- the reach of the first k corners -/
def rchK (l : List Geo.XY) (u v : Int) : Nat → Int
  | 0 => u * (Geo.X l 0).1 + v * (Geo.X l 0).2
  | k + 1 => if rchK l u v k < u * (Geo.X l k).1 + v * (Geo.X l k).2 then u * (Geo.X l k).1 + v * (Geo.X l k).2 else rchK l u v k
theorem val_bd {l : List Geo.XY} (h : AllIn l) {u v : Int} (u1 : -10000 ≤ u) (u2 : u ≤ 10000) (v1 : -10000 ≤ v) (v2 : v ≤ 10000) (k : Nat) :
    (-50000000 ≤ u * (Geo.X l k).1 ∧ u * (Geo.X l k).1 ≤ 50000000) ∧ (-50000000 ≤ v * (Geo.X l k).2 ∧ v * (Geo.X l k).2 ≤ 50000000) := by
  obtain ⟨a1, a2, a3, a4⟩ := in_all h k
  have := mul_bd (a := u) (b := (Geo.X l k).1) (A := 10000) (B := 5000) (by omega) (by omega) (by omega) (by omega)
  have := mul_bd (a := v) (b := (Geo.X l k).2) (A := 10000) (B := 5000) (by omega) (by omega) (by omega) (by omega)
  omega
theorem rchK_bd {l : List Geo.XY} (h : AllIn l) {u v : Int} (u1 : -10000 ≤ u) (u2 : u ≤ 10000) (v1 : -10000 ≤ v) (v2 : v ≤ 10000) (k : Nat) : -100000000 ≤ rchK l u v k ∧ rchK l u v k ≤ 100000000 := by
  induction k with
  | zero => have := val_bd h u1 u2 v1 v2 0; rw [rchK]; omega
  | succ k ih => have := val_bd h u1 u2 v1 v2 k; rw [rchK]; split <;> omega

set_option maxHeartbeats 1000000 in
theorem farthest_any (A : Option Addr) (l : List Geo.XY) (c : Nat) (u v : Int) (w : World) (hr : Pts w A l) (h0 : 0 < l.length) (hl : l.length ≤ 64) (hin : AllIn l) (u1 : -10000 ≤ u) (u2 : u ≤ 10000) (v1 : -10000 ≤ v) (v2 : v ≤ 10000) :
    Calls Try.prog 81 #[.slice A l.length c, .int .i64 u, .int .i64 v] w fun e w' => e = .returned (.int .i64 (rchK l u v l.length)) ∧ Below w.heap.size w w' := by
  have HIN := Lib.hid hin
  clear hin
  rcases hr with hr | ⟨b, off, rfl, hb, hc⟩
  · rw [hr] at h0; simp at h0
  have HC := Lib.hid hc
  have c1 : w.cell? ⟨b, off, none⟩ = some (.int .i64 (Geo.X l 0).1) := by have := (hc 0 h0).1; rwa [Nat.zero_mul, Nat.add_zero] at this
  have c2 : w.cell? ⟨b, off + 1, none⟩ = some (.int .i64 (Geo.X l 0).2) := by have := (hc 0 h0).2; rwa [Nat.zero_mul, Nat.add_zero] at this
  clear hc
  obtain ⟨⟨m1, m2⟩, m3, m4⟩ := val_bd HIN.out u1 u2 v1 v2 0
  have e1 : IntKind.i64.wrap (u * (Geo.X l 0).1) = u * (Geo.X l 0).1 := IntWalk.i64_in _ (by omega)
  have e2 : IntKind.i64.wrap (v * (Geo.X l 0).2) = v * (Geo.X l 0).2 := IntWalk.i64_in _ (by clear e1; omega)
  have e3 : IntKind.i64.wrap (u * (Geo.X l 0).1 + v * (Geo.X l 0).2) = u * (Geo.X l 0).1 + v * (Geo.X l 0).2 := IntWalk.i64_in _ (by clear e1 e2; omega)
  have e4 : (0 : Int) < (l.length : Int) := by clear e1 e2 e3; omega
  have e5 : (1 : Int) ≤ (l.length : Int) := by clear e1 e2 e3; omega
  have e6 : ¬ l = [] := by intro h; rw [h] at h0; simp at h0
  go_enter Try.func81, Try.ntmps81
  go_wp2
  have f1 : ∀ s : Ext w, s.w.cell? ⟨b, off, none⟩ = some (.int .i64 (Geo.X l 0).1) := fun s => s.cell c1
  have f2 : ∀ s : Ext w, s.w.cell? ⟨b, off + 1, none⟩ = some (.int .i64 (Geo.X l 0).2) := fun s => s.cell c2
  refine wp_region_ext (by kernel_rfl) (by kernel_rfl) ?_
  repeat (go_big_quiet_step (fail))
  refine wpQuiet_nil ?_
  rintro _ ⟨s, rfl⟩
  clear f1 f2 e1 e2 e3 c1 c2
  have hBs := s.h
  go_wp2
  go_loopw [7, 25] (fun r i wr => ∃ k : Nat, k ≤ l.length ∧ i = .int .i64 k ∧ r = .int .i64 (rchK l u v k) ∧ Below w.heap.size w wr) (fun _ i _ => l.length - (intOf i).toNat)
  case atStart => exact ⟨0, Nat.zero_le _, rfl, rfl, hBs⟩
  case round =>
    obtain ⟨k, hk, rfl, rfl, hB⟩ := hrel
    by_cases hlt : k < l.length
    · have c1 : wr.cell? ⟨b, off + k * 2, none⟩ = some (.int .i64 (Geo.X l k).1) := (hB.cell (p := ⟨b, off + k * 2, none⟩) hb).trans (HC.out k hlt).1
      have c2 : wr.cell? ⟨b, off + k * 2 + 1, none⟩ = some (.int .i64 (Geo.X l k).2) := (hB.cell (p := ⟨b, off + k * 2 + 1, none⟩) hb).trans (HC.out k hlt).2
      obtain ⟨⟨m1, m2⟩, m3, m4⟩ := val_bd HIN.out u1 u2 v1 v2 k
      obtain ⟨m5, m6⟩ := rchK_bd HIN.out u1 u2 v1 v2 k
      go_wp2
      go_roundw
      case rel => exact ⟨k + 1, by omega, by go_num, rfl, hB.alloc hB.size _⟩
      case measure => simp [intOf]; omega
    · obtain rfl : k = l.length := by omega
      go_wp2
      go_ret
      exact ⟨rfl, hB⟩
end Go.Proofs.Ytflkhjicgojcbaa
