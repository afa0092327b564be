import Derived.Test.YtflkhjicgojcbaaQ1
import Derived.Test.YtflkhjicgojcbaaH0
namespace Go.Proofs.Ytflkhjicgojcbaa
open Go.RowKit Go.Shelf

set_option maxRecDepth 100000 in
set_option maxHeartbeats 4000000 in
theorem turnlist_big (b off c : Nat) (l : List Geo.XY) (h0 : 0 < l.length) (h64 : l.length ≤ 5000) (w : World) (hb : b < w.heap.size)
    (hc : ∀ k, k < l.length → w.cell? ⟨b, off + k * 2, none⟩ = some (.int .i64 (Geo.X l k).1) ∧ w.cell? ⟨b, off + k * 2 + 1, none⟩ = some (.int .i64 (Geo.X l k).2)) :
    Calls Try.prog 55 #[.slice (some ⟨b, off, none⟩) l.length c] w fun e w' => ∃ v, e = .returned v ∧ w'.ownsRow w.heap.size 38 2 v (Geo.canon l).length (flat (Geo.canon l)) ∧ Below w.heap.size w w' := by
  have HC := Lib.hid hc
  clear hc
  obtain ⟨i0, hi, hz0, hz1, hz2⟩ := info_parts info38'
  go_enter Try.func55, Try.ntmps55
  go_wp2
  go_loopw [3, 10] (fun at_ i wr => ∃ k : Nat, k ≤ l.length ∧ i = .int .i64 k ∧ at_ = .int .i64 (Geo.lowIdx l k) ∧ Below w.heap.size w wr) (fun _ i _ => l.length - (intOf i).toNat)
  case atStart => exact ⟨0, Nat.zero_le _, rfl, rfl, Below.refl _ _⟩
  case round =>
    obtain ⟨k, hk, rfl, rfl, hB⟩ := hrel
    by_cases hlt : k < l.length
    · obtain ⟨m, hm⟩ : ∃ m, m = Geo.lowIdx l k := ⟨_, rfl⟩
      have hml : m < l.length := by
        rw [hm]
        by_cases e : k = 0
        · subst e; exact h0
        · have := Geo.lowIdx_lt l k (by omega); omega
      have HS : Hid (Geo.lowIdx l (k + 1) = if Geo.low (Geo.X l k) (Geo.X l m) then k else m) := Lib.hid (by rw [hm]; rfl)
      rw [← hm]
      clear hm
      have c1 : wr.cell? ⟨b, off + k * 2, none⟩ = some (.int .i64 (Geo.X l k).1) := (hB.cell (p := ⟨b, off + k * 2, none⟩) hb).trans (HC.out k hlt).1
      have c2 : wr.cell? ⟨b, off + k * 2 + 1, none⟩ = some (.int .i64 (Geo.X l k).2) := (hB.cell (p := ⟨b, off + k * 2 + 1, none⟩) hb).trans (HC.out k hlt).2
      have c3 : wr.cell? ⟨b, off + m * 2, none⟩ = some (.int .i64 (Geo.X l m).1) := (hB.cell (p := ⟨b, off + m * 2, none⟩) hb).trans (HC.out m hml).1
      have c4 : wr.cell? ⟨b, off + m * 2 + 1, none⟩ = some (.int .i64 (Geo.X l m).2) := (hB.cell (p := ⟨b, off + m * 2 + 1, none⟩) hb).trans (HC.out m hml).2
      have hbl : b < wr.heap.size := Nat.lt_of_lt_of_le hb hB.size
      go_wp2
      have hBa := hB.alloc hB.size (.cells #[.int .i64 (Geo.X l k).1, .int .i64 (Geo.X l k).2] 38)
      have bX := Blk.new wr 38 #[.int .i64 (Geo.X l k).1, .int .i64 (Geo.X l k).2]
      have d3 : (wr.alloc (.cells #[.int .i64 (Geo.X l k).1, .int .i64 (Geo.X l k).2] 38)).cell? ⟨b, off + m * 2, none⟩ = some (.int .i64 (Geo.X l m).1) := (hBa.cell (p := ⟨b, off + m * 2, none⟩) hb).trans (HC.out m hml).1
      have d4 : (wr.alloc (.cells #[.int .i64 (Geo.X l k).1, .int .i64 (Geo.X l k).2] 38)).cell? ⟨b, off + m * 2 + 1, none⟩ = some (.int .i64 (Geo.X l m).2) := (hBa.cell (p := ⟨b, off + m * 2 + 1, none⟩) hb).trans (HC.out m hml).2
      generalize wr.alloc (.cells #[.int .i64 (Geo.X l k).1, .int .i64 (Geo.X l k).2] 38) = W1 at *
      have q1 := bX.cell 0
      have q2 := bX.cell 1
      simp only [List.getElem?_toArray, List.getElem?_cons_zero, List.getElem?_cons_succ] at q1 q2
      have z1 := fun s : Ext W1 => s.cell q1
      have z2 := fun s : Ext W1 => s.cell q2
      have z3 := fun s : Ext W1 => s.cell d3
      have z4 := fun s : Ext W1 => s.cell d4
      refine wp_region_ext (by kernel_rfl) (by kernel_rfl) ?_
      repeat (go_big_quiet_step ((go_at_call 99; refine calls_ext (lower_any _ _ _ _ _))))
      refine wpQuiet_nil ?_
      rintro _ ⟨s, rfl⟩
      have hBs := hBa.trans (s.h.mono hBa.size)
      generalize s.w = W2 at *
      clear z1 z2 z3 z4 s
      by_cases hlow : Geo.low (Geo.X l k) (Geo.X l m)
      · have e1 : decide (Geo.low ((Geo.X l k).1, (Geo.X l k).2) ((Geo.X l m).1, (Geo.X l m).2)) = true := decide_eq_true hlow
        rw [e1]
        go_wp2
        go_roundw
        case rel => exact ⟨k + 1, by omega, by go_num, by rw [HS.out, if_pos hlow], hBs⟩
        case measure => simp [intOf]; omega
      · have e1 : decide (Geo.low ((Geo.X l k).1, (Geo.X l k).2) ((Geo.X l m).1, (Geo.X l m).2)) = false := decide_eq_false hlow
        rw [e1]
        go_wp2
        go_roundw
        case rel => exact ⟨k + 1, by omega, by go_num, by rw [HS.out, if_neg hlow], hBs⟩
        case measure => simp [intOf]; omega
    · obtain rfl : k = l.length := by omega
      have hat := Geo.lowIdx_lt l l.length h0
      obtain ⟨at_, hat_⟩ : ∃ m, m = Geo.lowIdx l l.length := ⟨_, rfl⟩
      have HAT := Lib.hid hat_
      rw [← hat_] at hat ⊢
      clear hat_
      go_wp2
      clear hlt
      go_loopw [6, 25] (fun v i wr => ∃ k : Nat, k ≤ l.length ∧ i = .int .i64 k ∧ wr.ownsRow w.heap.size 38 2 v k (flat (fromLow l k)) ∧ Below w.heap.size w wr) (fun _ i _ => l.length - (intOf i).toNat)
      case atStart => exact ⟨0, Nat.zero_le _, rfl, World.ownsRow_nil _ _ _ _, hB⟩
      case round =>
        clear hB
        obtain ⟨k, hk, rfl, hown, hB⟩ := hrel
        by_cases hlt : k < l.length
        · obtain ⟨m, hm⟩ : ∃ m, m = (at_ + k) % l.length := ⟨_, rfl⟩
          have hml : m < l.length := by rw [hm]; exact Nat.mod_lt _ (by omega)
          have HM : Hid (fromLow l (k + 1) = fromLow l k ++ [Geo.X l m]) := Lib.hid (by
            have hml' : (Geo.lowIdx l l.length + k) % l.length < l.length := Nat.mod_lt _ (by omega)
            rw [fromLow_succ, hm, HAT.out, ← Geo.At_mod, Geo.At_lt l hml'])
          have e3 : ((at_ : Int) + (k : Int)) % (l.length : Int) = (m : Int) := by rw [hm]; simp
          clear hm
          have e4 : ¬ (l.length : Int) = 0 := by omega
          have c3 : wr.cell? ⟨b, off + m * 2, none⟩ = some (.int .i64 (Geo.X l m).1) := (hB.cell (p := ⟨b, off + m * 2, none⟩) hb).trans (HC.out m hml).1
          have c4 : wr.cell? ⟨b, off + m * 2 + 1, none⟩ = some (.int .i64 (Geo.X l m).2) := (hB.cell (p := ⟨b, off + m * 2 + 1, none⟩) hb).trans (HC.out m hml).2
          have hbl : b < wr.heap.size := Nat.lt_of_lt_of_le hb hB.size
          go_wp2_with (at_builtin; refine wpList_append_own _ rfl _ _ 22 rfl w.heap.size 38 i0 _ 2 16 Try.underlying22 hi hz0 hz1 hz2 rfl (by decide) _ _ _ rfl (hown.alloc _) ⟨wr.heap.size, 0, none⟩ 1 1 [.int .i64 (Geo.X l m).1, .int .i64 (Geo.X l m).2] rfl rfl ?c1 ?c2 ?c3 ?c4 ?c5 ?_)
          case c1 => exact new_cells _ _ _
          case c2 => exact one_two _ _
          case c3 => unfold maxLen; omega
          case c4 => omega
          case c5 => have := hB.size; simp; omega
          intro v' w1 hown' hgrow _
          have hB' : Below w.heap.size w w1 := (hB.alloc hB.size _).grown hgrow (by have := hB.size; simp; omega) (fun k e => (hown.lt k e).1)
          clear hown hgrow
          go_wp2
          go_roundw
          case rel => exact ⟨k + 1, by omega, by go_num, by rw [HM.out, flat_append]; exact hown', hB'⟩
          case measure => simp [intOf]; omega
        · obtain rfl : k = l.length := by omega
          go_wp2
          go_ret
          exact ⟨_, rfl, by rw [Geo.canon_length, ← fromLow_all]; exact hown, hB⟩

/-- a place of a sum -/
def Wid (p : Geo.XY) : Prop := (-20000 ≤ p.1 ∧ p.1 ≤ 20000) ∧ -20000 ≤ p.2 ∧ p.2 ≤ 20000
def farB (a p q : Geo.XY) : Bool := decide (Geo.sqd a q < Geo.sqd a p)
set_option maxRecDepth 100000 in
set_option maxHeartbeats 2000000 in
theorem farther_any (a p q : Geo.XY) (ha : Wid a) (hp : Wid p) (hq : Wid q) (r : Bool) (hr : farB a p q = r) (w : World) :
    Calls Try.prog 103 #[.agg #[.int .i64 a.1, .int .i64 a.2], .agg #[.int .i64 p.1, .int .i64 p.2], .agg #[.int .i64 q.1, .int .i64 q.2]] w fun e w' => e = .returned (.bool r) ∧ Below w.heap.size w w' := by
  obtain ⟨⟨a1, a2⟩, a3, a4⟩ := ha
  obtain ⟨⟨p1, p2⟩, p3, p4⟩ := hp
  obtain ⟨⟨q1, q2⟩, q3, q4⟩ := hq
  have HRr : Hid (decide ((q.1 - a.1) * (q.1 - a.1) + (q.2 - a.2) * (q.2 - a.2) < (p.1 - a.1) * (p.1 - a.1) + (p.2 - a.2) * (p.2 - a.2)) = r) := Lib.hid hr
  clear hr
  have m1 := mul_bd (a := p.1 - a.1) (b := p.1 - a.1) (A := 40000) (B := 40000) (by omega) (by omega) (by omega) (by omega)
  have m2 := mul_bd (a := p.2 - a.2) (b := p.2 - a.2) (A := 40000) (B := 40000) (by omega) (by omega) (by omega) (by omega)
  have m3 := mul_bd (a := q.1 - a.1) (b := q.1 - a.1) (A := 40000) (B := 40000) (by omega) (by omega) (by omega) (by omega)
  have m4 := mul_bd (a := q.2 - a.2) (b := q.2 - a.2) (A := 40000) (B := 40000) (by omega) (by omega) (by omega) (by omega)
  obtain ⟨m1a, m1b⟩ := m1
  obtain ⟨m2a, m2b⟩ := m2
  obtain ⟨m3a, m3b⟩ := m3
  obtain ⟨m4a, m4b⟩ := m4
  go_enter Try.func103, Try.ntmps103
  go_wp2
  obtain ⟨W, hW⟩ : ∃ W, W = (((w.alloc (.cells #[.int .i64 a.1, .int .i64 a.2] 38)).alloc (.cells #[.int .i64 p.1, .int .i64 p.2] 38)).alloc (.cells #[.int .i64 q.1, .int .i64 q.2] 38)) := ⟨_, rfl⟩
  have hb : Below w.heap.size w W := by rw [hW]; exact (((Below.refl _ _).alloc (Nat.le_refl _) _).alloc (by simp) _).alloc (by simp; omega) _
  have f1 : ∀ s : Ext W, s.w.cell? ⟨w.heap.size, 0, none⟩ = some (.int .i64 a.1) := fun s => s.cell (by rw [hW]; go_simp)
  have f2 : ∀ s : Ext W, s.w.cell? ⟨w.heap.size, 1, none⟩ = some (.int .i64 a.2) := fun s => s.cell (by rw [hW]; go_simp)
  have f3 : ∀ s : Ext W, s.w.cell? ⟨w.heap.size + 1, 0, none⟩ = some (.int .i64 p.1) := fun s => s.cell (by rw [hW]; go_simp)
  have f4 : ∀ s : Ext W, s.w.cell? ⟨w.heap.size + 1, 1, none⟩ = some (.int .i64 p.2) := fun s => s.cell (by rw [hW]; go_simp)
  have f5 : ∀ s : Ext W, s.w.cell? ⟨w.heap.size + 1 + 1, 0, none⟩ = some (.int .i64 q.1) := fun s => s.cell (by rw [hW]; go_simp)
  have f6 : ∀ s : Ext W, s.w.cell? ⟨w.heap.size + 1 + 1, 1, none⟩ = some (.int .i64 q.2) := fun s => s.cell (by rw [hW]; go_simp)
  rw [← hW]
  clear hW
  refine wp_region_ext (by kernel_rfl) (by kernel_rfl) ?_
  repeat (go_big_quiet_step (fail))
  refine wpQuiet_nil ?_
  rintro _ ⟨s, rfl⟩
  go_wp2
  have g1 := f1 s
  have g2 := f2 s
  have g3 := f3 s
  have g4 := f4 s
  have g5 := f5 s
  have g6 := f6 s
  have hb2 := hb.trans (s.h.mono hb.size)
  clear f1 f2 f3 f4 f5 f6
  generalize s.w = W2 at *
  clear s
  have f1 := fun s : Ext W2 => s.cell g1
  have f2 := fun s : Ext W2 => s.cell g2
  have f5 := fun s : Ext W2 => s.cell g5
  have f6 := fun s : Ext W2 => s.cell g6
  refine wp_region_ext (by kernel_rfl) (by kernel_rfl) ?_
  repeat (go_big_quiet_step (fail))
  refine wpQuiet_nil ?_
  rintro _ ⟨s, rfl⟩
  go_wp2
  go_ret
  exact ⟨by rw [← HRr.out]; rfl, hb2.trans (s.h.mono hb2.size)⟩
end Go.Proofs.Ytflkhjicgojcbaa
