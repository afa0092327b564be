import Derived.Test.YthabpgclnbmnpaaGreatDoorL3
namespace Go.Proofs.YthabpgclnbmnpaaGreatDoor
open Go.RowKit Go.Shelf

def eqB (a b : List Geo.XY) : Bool := decide (a = b)
theorem eqB_len {a b : List Geo.XY} (h : ¬ a.length = b.length) : Ending.returned (.bool false) = .returned (.bool (eqB a b)) := by
  unfold eqB; rw [decide_eq_false (fun e => h (by rw [e]))]
theorem eqB_at {a b : List Geo.XY} (k : Nat) (h : ¬ Geo.X a k = Geo.X b k) : Ending.returned (.bool false) = .returned (.bool (eqB a b)) := by
  unfold eqB; rw [decide_eq_false (fun e => h (by rw [e]))]
theorem eqB_all {a b : List Geo.XY} (hl : a.length = b.length) (h : ∀ j, j < a.length → Geo.X a j = Geo.X b j) : Ending.returned (.bool true) = .returned (.bool (eqB a b)) := by
  unfold eqB
  rw [decide_eq_true]
  refine List.ext_getElem hl fun i h1 h2 => ?_
  have := h i h1
  unfold Geo.X at this
  rw [List.getElem?_eq_getElem h1, List.getElem?_eq_getElem h2] at this
  simpa using this

set_option maxRecDepth 100000 in
set_option maxHeartbeats 2000000 in
theorem requal_any (A B : Option Addr) (a b : List Geo.XY) (c c' : Nat) (w : World) (ha : Pts w A a) (hb : Pts w B b) (hl : a.length ≤ 256) :
    Calls Tryz.prog 47 #[.slice A a.length c, .slice B b.length c'] w fun e w' => e = .returned (.bool (eqB a b)) ∧ Below w.heap.size w w' := by
  have HA := Lib.hid ha
  have HB := Lib.hid hb
  clear ha hb
  by_cases hlen : a.length = b.length
  · have HL := Lib.hid hlen
    go_enter Tryz.func47, Tryz.ntmps47
    go_wp2
    go_loopw [13] (fun i wr => ∃ k : Nat, k ≤ a.length ∧ i = .int .i64 k ∧ (∀ j, j < k → Geo.X a j = Geo.X b j) ∧ Below w.heap.size w wr) (fun i _ => a.length - (intOf i).toNat)
    case atStart => exact ⟨0, Nat.zero_le _, rfl, fun j hj => absurd hj (by omega), Below.refl _ _⟩
    case round =>
      obtain ⟨k, hk, rfl, hJ, hB⟩ := hrel
      have HJ := Lib.hid hJ
      clear hJ
      by_cases hlt : k < a.length
      · rcases HA.out with h0 | ⟨b1, o1, rfl, hb1, hc1⟩
        · rw [h0] at hlt; simp at hlt
        rcases HB.out with h0 | ⟨b2, o2, rfl, hb2, hc2⟩
        · rw [h0] at hlen; simp at hlen; rw [hlen] at hlt; simp at hlt
        have hltb : k < b.length := by omega
        have c1 := (hB.cell (p := ⟨b1, o1 + k * 2, none⟩) hb1).trans (hc1 k hlt).1
        have c2 := (hB.cell (p := ⟨b1, o1 + k * 2 + 1, none⟩) hb1).trans (hc1 k hlt).2
        have c3 := (hB.cell (p := ⟨b2, o2 + k * 2, none⟩) hb2).trans (hc2 k hltb).1
        have c4 := (hB.cell (p := ⟨b2, o2 + k * 2 + 1, none⟩) hb2).trans (hc2 k hltb).2
        clear hc1 hc2
        have z1 := fun s : Ext wr => s.cell c1
        have z2 := fun s : Ext wr => s.cell c2
        have z3 := fun s : Ext wr => s.cell c3
        have z4 := fun s : Ext wr => s.cell c4
        have HX : Hid (Geo.X a k = Geo.X b k ↔ (Geo.X a k).1 = (Geo.X b k).1 ∧ (Geo.X a k).2 = (Geo.X b k).2) := Lib.hid Prod.ext_iff
        obtain ⟨x, hx⟩ : ∃ x, Geo.X a k = x := ⟨_, rfl⟩
        obtain ⟨y, hy⟩ : ∃ y, Geo.X b k = y := ⟨_, rfl⟩
        have HXX := Lib.hid hx
        have HYY := Lib.hid hy
        rw [hx] at c1 c2 z1 z2
        rw [hy] at c3 c4 z3 z4
        rw [hx, hy] at HX
        clear hx hy
        go_wp2
        by_cases h1 : x.1 = y.1
        · by_cases h2 : x.2 = y.2
          · have HE := Lib.hid (HX.out.2 ⟨h1, h2⟩)
            refine wp_region_ext (by kernel_rfl) (by kernel_rfl) ?_
            repeat (go_big_quiet_step (fail))
            refine wpQuiet_nil ?_
            rintro _ ⟨s, rfl⟩
            have hBs := hB.trans (s.h.mono hB.size)
            generalize s.w = W2 at *
            clear z1 z2 z3 z4 s c1 c2 c3 c4
            go_wp2
            go_roundw
            case rel => exact ⟨k + 1, by omega, by go_num, fun j hj => by
              by_cases e : j = k
              · subst e; rw [HXX.out, HYY.out]; exact HE.out
              · exact HJ.out j (by omega), hBs⟩
            case measure => simp [intOf]; omega
          · have HE := Lib.hid (eqB_at k (fun h => h2 (HX.out.1 (by rw [← HXX.out, ← HYY.out]; exact h)).2))
            refine wp_region_ext (by kernel_rfl) (by kernel_rfl) ?_
            repeat (go_big_quiet_step (fail))
            refine wpQuiet_nil ?_
            rintro _ ⟨s, rfl⟩
            have hBs := hB.trans (s.h.mono hB.size)
            generalize s.w = W2 at *
            clear z1 z2 z3 z4 s c1 c2 c3 c4
            go_wp2
            go_ret
            exact ⟨HE.out, hBs⟩
        · have HE := Lib.hid (eqB_at k (fun h => h1 (HX.out.1 (by rw [← HXX.out, ← HYY.out]; exact h)).1))
          refine wp_region_ext (by kernel_rfl) (by kernel_rfl) ?_
          repeat (go_big_quiet_step (fail))
          refine wpQuiet_nil ?_
          rintro _ ⟨s, rfl⟩
          have hBs := hB.trans (s.h.mono hB.size)
          generalize s.w = W2 at *
          clear z1 z2 z3 z4 s c1 c2 c3 c4
          go_wp2
          go_ret
          exact ⟨HE.out, hBs⟩
      · obtain rfl : k = a.length := by omega
        have HE := Lib.hid (eqB_all HL.out HJ.out)
        go_wp2
        go_ret
        exact ⟨HE.out, hB⟩
  · have HE := Lib.hid (eqB_len hlen)
    go_enter Tryz.func47, Tryz.ntmps47
    go_wp2
    go_ret
    exact ⟨HE.out, Below.refl _ _⟩
set_option maxRecDepth 100000 in
set_option maxHeartbeats 2000000 in
theorem dequal_any (A B : Option Addr) (a b : List Geo.XY) (c c' : Nat) (w : World) (ha : Pts w A a) (hb : Pts w B b) (hl : a.length ≤ 256) :
    Calls Tryz.prog 68 #[.slice A a.length c, .slice B b.length c'] w fun e w' => e = .returned (.bool (eqB a b)) ∧ Below w.heap.size w w' := by
  have HA := Lib.hid ha
  have HB := Lib.hid hb
  clear ha hb
  by_cases hlen : a.length = b.length
  · have HL := Lib.hid hlen
    go_enter Tryz.func68, Tryz.ntmps68
    go_wp2
    go_loopw [13] (fun i wr => ∃ k : Nat, k ≤ a.length ∧ i = .int .i64 k ∧ (∀ j, j < k → Geo.X a j = Geo.X b j) ∧ Below w.heap.size w wr) (fun i _ => a.length - (intOf i).toNat)
    case atStart => exact ⟨0, Nat.zero_le _, rfl, fun j hj => absurd hj (by omega), Below.refl _ _⟩
    case round =>
      obtain ⟨k, hk, rfl, hJ, hB⟩ := hrel
      have HJ := Lib.hid hJ
      clear hJ
      by_cases hlt : k < a.length
      · rcases HA.out with h0 | ⟨b1, o1, rfl, hb1, hc1⟩
        · rw [h0] at hlt; simp at hlt
        rcases HB.out with h0 | ⟨b2, o2, rfl, hb2, hc2⟩
        · rw [h0] at hlen; simp at hlen; rw [hlen] at hlt; simp at hlt
        have hltb : k < b.length := by omega
        have c1 := (hB.cell (p := ⟨b1, o1 + k * 2, none⟩) hb1).trans (hc1 k hlt).1
        have c2 := (hB.cell (p := ⟨b1, o1 + k * 2 + 1, none⟩) hb1).trans (hc1 k hlt).2
        have c3 := (hB.cell (p := ⟨b2, o2 + k * 2, none⟩) hb2).trans (hc2 k hltb).1
        have c4 := (hB.cell (p := ⟨b2, o2 + k * 2 + 1, none⟩) hb2).trans (hc2 k hltb).2
        clear hc1 hc2
        have z1 := fun s : Ext wr => s.cell c1
        have z2 := fun s : Ext wr => s.cell c2
        have z3 := fun s : Ext wr => s.cell c3
        have z4 := fun s : Ext wr => s.cell c4
        have HX : Hid (Geo.X a k = Geo.X b k ↔ (Geo.X a k).1 = (Geo.X b k).1 ∧ (Geo.X a k).2 = (Geo.X b k).2) := Lib.hid Prod.ext_iff
        obtain ⟨x, hx⟩ : ∃ x, Geo.X a k = x := ⟨_, rfl⟩
        obtain ⟨y, hy⟩ : ∃ y, Geo.X b k = y := ⟨_, rfl⟩
        have HXX := Lib.hid hx
        have HYY := Lib.hid hy
        rw [hx] at c1 c2 z1 z2
        rw [hy] at c3 c4 z3 z4
        rw [hx, hy] at HX
        clear hx hy
        go_wp2
        by_cases h1 : x.1 = y.1
        · by_cases h2 : x.2 = y.2
          · have HE := Lib.hid (HX.out.2 ⟨h1, h2⟩)
            refine wp_region_ext (by kernel_rfl) (by kernel_rfl) ?_
            repeat (go_big_quiet_step (fail))
            refine wpQuiet_nil ?_
            rintro _ ⟨s, rfl⟩
            have hBs := hB.trans (s.h.mono hB.size)
            generalize s.w = W2 at *
            clear z1 z2 z3 z4 s c1 c2 c3 c4
            go_wp2
            go_roundw
            case rel => exact ⟨k + 1, by omega, by go_num, fun j hj => by
              by_cases e : j = k
              · subst e; rw [HXX.out, HYY.out]; exact HE.out
              · exact HJ.out j (by omega), hBs⟩
            case measure => simp [intOf]; omega
          · have HE := Lib.hid (eqB_at k (fun h => h2 (HX.out.1 (by rw [← HXX.out, ← HYY.out]; exact h)).2))
            refine wp_region_ext (by kernel_rfl) (by kernel_rfl) ?_
            repeat (go_big_quiet_step (fail))
            refine wpQuiet_nil ?_
            rintro _ ⟨s, rfl⟩
            have hBs := hB.trans (s.h.mono hB.size)
            generalize s.w = W2 at *
            clear z1 z2 z3 z4 s c1 c2 c3 c4
            go_wp2
            go_ret
            exact ⟨HE.out, hBs⟩
        · have HE := Lib.hid (eqB_at k (fun h => h1 (HX.out.1 (by rw [← HXX.out, ← HYY.out]; exact h)).1))
          refine wp_region_ext (by kernel_rfl) (by kernel_rfl) ?_
          repeat (go_big_quiet_step (fail))
          refine wpQuiet_nil ?_
          rintro _ ⟨s, rfl⟩
          have hBs := hB.trans (s.h.mono hB.size)
          generalize s.w = W2 at *
          clear z1 z2 z3 z4 s c1 c2 c3 c4
          go_wp2
          go_ret
          exact ⟨HE.out, hBs⟩
      · obtain rfl : k = a.length := by omega
        have HE := Lib.hid (eqB_all HL.out HJ.out)
        go_wp2
        go_ret
        exact ⟨HE.out, hB⟩
  · have HE := Lib.hid (eqB_len hlen)
    go_enter Tryz.func68, Tryz.ntmps68
    go_wp2
    go_ret
    exact ⟨HE.out, Below.refl _ _⟩

/-- the answer of a function that returns a list and an error -/
def ListErr (w : World) (ps : List Geo.XY) (err : Int) (e : Ending) (w' : World) : Prop :=
  ∃ v, e = .returned (.tuple #[v, .int .i64 err]) ∧ w'.ownsRow w.heap.size 42 2 v ps.length (flat ps) ∧ Below w.heap.size w w'

set_option maxHeartbeats 1000000 in
theorem same_any (A B : Option Addr) (a b : List Geo.XY) (c c' : Nat) (w : World) (ha : Pts w A a) (hb : Pts w B b) (hl : a.length ≤ 256) (r : Bool) (hr : eqB a b = r) :
    Calls Tryz.prog 25 #[.slice A a.length c, .slice B b.length c'] w fun e w' => e = .returned (.bool r) ∧ Below w.heap.size w w' := by
  have HA := Lib.hid ha
  have HB := Lib.hid hb
  have HR := Lib.hid hr
  clear ha hb hr
  go_enter Tryz.func25, Tryz.ntmps25
  go_wp2_with fail
  refine (requal_any A B a b c c' _ HA.out HB.out hl).mono ?_
  rintro e w1 ⟨rfl, hb1⟩
  rw [HR.out]
  go_wp2
  go_ret
  exact ⟨rfl, hb1⟩
end Go.Proofs.YthabpgclnbmnpaaGreatDoor
