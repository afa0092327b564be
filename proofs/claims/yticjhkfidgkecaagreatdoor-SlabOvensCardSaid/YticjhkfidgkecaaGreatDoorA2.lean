import Derived.Test.YticjhkfidgkecaaGreatDoorA1
namespace Go.Proofs.YticjhkfidgkecaaGreatDoor
open Go.RowKit Pl

/-- number k of a block -/
def nAt (h : Hd) (k : Nat) : Int := if k = 0 then h.n0 else if k = 1 then h.n1 else h.n2
theorem idx_n0 (a b c : Int) (w : World) : (Instr.index 22 (.agg #[.int .i64 a, .int .i64 b, .int .i64 c]) (.int .i64 0)).run Tryz.prog w = .ok (.int .i64 a) w := by kernel_rfl
theorem idx_n1 (a b c : Int) (w : World) : (Instr.index 22 (.agg #[.int .i64 a, .int .i64 b, .int .i64 c]) (.int .i64 1)).run Tryz.prog w = .ok (.int .i64 b) w := by kernel_rfl
theorem idx_n2 (a b c : Int) (w : World) : (Instr.index 22 (.agg #[.int .i64 a, .int .i64 b, .int .i64 c]) (.int .i64 2)).run Tryz.prog w = .ok (.int .i64 c) w := by kernel_rfl
theorem idx_n (h : Hd) (k : Nat) (hk : k < 3) (w : World) : (Instr.index 22 (.agg #[.int .i64 h.n0, .int .i64 h.n1, .int .i64 h.n2]) (.int .i64 (k : Int))).run Tryz.prog w = .ok (.int .i64 (nAt h k)) w := by
  have : k = 0 ∨ k = 1 ∨ k = 2 := by omega
  rcases this with rfl | rfl | rfl
  · exact idx_n0 _ _ _ w
  · exact idx_n1 _ _ _ w
  · exact idx_n2 _ _ _ w
def okN (u : Nat) (op : Int) (k : Nat) (n : Int) : Prop := (u ≤ k → n = 0) ∧ (k < u → leastV op k ≤ n ∧ n ≤ 999)
def NumsOk (h : Hd) : Prop := ∀ k, k < 3 → okN (nNum h.op) h.op k (nAt h k)
theorem nNum_le (op : Int) : nNum op ≤ 3 := by unfold nNum; repeat' split
                                               all_goals omega

theorem fld0 (s : ByteArray) (u p : Int) (w : World) : (Instr.field 127 (.agg #[.string s, .int .i64 u, .int .i64 p]) 0).run Tryz.prog w = .ok (.string s) w := by kernel_rfl
theorem fld1 (s : ByteArray) (u p : Int) (w : World) : (Instr.field 127 (.agg #[.string s, .int .i64 u, .int .i64 p]) 1).run Tryz.prog w = .ok (.int .i64 u) w := by kernel_rfl
theorem fld2 (s : ByteArray) (u p : Int) (w : World) : (Instr.field 127 (.agg #[.string s, .int .i64 u, .int .i64 p]) 2).run Tryz.prog w = .ok (.int .i64 p) w := by kernel_rfl
set_option maxRecDepth 100000 in
set_option maxHeartbeats 1000000 in
theorem nums_any (h : Hd) (A : Option Addr) (n c : Nat) (h1 : 1 ≤ h.op) (h6 : h.op ≤ 6) (w : World) (hO : Own w) (r : Bool) (hr : NumsOk h ↔ r = true) :
    Calls Tryz.prog 125 #[bv h A n c] w fun e w' => e = .returned (.bool r) ∧ Below w.heap.size w w' := by
  have HR := Lib.hid hr
  have hu := nNum_le h.op
  have HO := Lib.hid hO
  clear hr hO
  have HX := Lib.hid (idx_n h)
  unfold bv hdc
  have HB := Lib.hid (Below.alloc (Below.refl w.heap.size w) (Nat.le_refl _) (.cells #[.int .i64 h.op, .int .i64 h.ax, .int .u8 h.col, .int .i64 h.n0, .int .i64 h.n1, .int .i64 h.n2, .slice A n c] 25))
  have bB := Blk.new w 25 #[.int .i64 h.op, .int .i64 h.ax, .int .u8 h.col, .int .i64 h.n0, .int .i64 h.n1, .int .i64 h.n2, .slice A n c]
  go_enter Tryz.func125, Tryz.ntmps125
  go_wp2_with fail
  refine (kindOf_any h.op h1 h6 _ (HO.out.below HB.out)).mono ?_
  rintro e w1 ⟨rfl, hb1⟩
  have bB1 := bB.below hb1 bB.lt
  have hB1 := HB.out.trans (hb1.mono HB.out.size)
  have q0 := bB1.cell 0
  have q3 := bB1.cell 3
  have q4 := bB1.cell 4
  have q5 := bB1.cell 5
  simp only [List.getElem?_toArray, List.getElem?_cons_zero, List.getElem?_cons_succ] at q0 q3 q4 q5
  unfold kindV
  unfold NumsOk at HR
  generalize nNum h.op = u at *
  clear bB bB1 hb1
  have f1 := fun w => fld1 ⟨(wd h.op).toArray⟩ u (nPart h.op) w
  go_wp2_with fail
  clear f1 q3 q4 q5
  obtain ⟨wo, rfl⟩ : ∃ wo, wo = w1 := ⟨_, rfl⟩
  go_loopw [12] (fun i wr => ∃ k : Nat, k ≤ 3 ∧ i = .int .i64 k ∧ (∀ j, j < k → okN u h.op j (nAt h j)) ∧ Below wo.heap.size wo wr) (fun i _ => 3 - (intOf i).toNat)
  case atStart => exact ⟨0, by omega, rfl, fun j hj => absurd hj (by omega), Below.refl _ _⟩
  case round =>
    obtain ⟨k, hk, rfl, hok, hB⟩ := hrel
    have HOK := Lib.hid hok
    clear hok
    have p0 := cell_ext hB q0
    by_cases hlt : k < 3
    · have hix := HX.out k hlt
      have HI := Lib.hid hlt
      have HNB : Hid (¬ okN u h.op k (nAt h k) → r = false) := Lib.hid (fun hn => by
        cases hr : r with
        | false => rfl
        | true => exact absurd (HR.out.2 hr k hlt) hn)
      generalize hm0 : nAt h k = m at *
      have HM0 := Lib.hid hm0
      clear hm0
      have hB2 := hB
      by_cases hu1 : u ≤ k
      · by_cases hm : m = 0
        · have g1 : (m != 0) = false := by simpa using hm
          have HJ : Hid (okN u h.op k (nAt h k)) := Lib.hid (by rw [HM0.out]; exact ⟨fun _ => hm, fun h => by omega⟩)
          clear hm
          go_wp2_with fail
          go_roundw
          case rel => exact ⟨k + 1, by omega, by go_num, fun j hj => by
            by_cases e : j = k
            · subst e; exact HJ.out
            · exact HOK.out j (by omega), hB2⟩
          case measure => simp [intOf]; omega
        · have g1 : (m != 0) = true := by simpa using hm
          have HF : Hid (r = false) := Lib.hid (HNB.out (fun hh => hm (hh.1 hu1)))
          clear hm
          go_wp2_with fail
          go_ret
          exact ⟨ret1 (congrArg Value.bool HF.out.symm), hB1.trans (hB2.mono hB1.size)⟩
      · have g0 : decide ((u : Int) ≤ (k : Int)) = false := by simp; omega
        go_wp2_with fail
        refine (least_any h.op k _).mono ?_
        rintro e w2 ⟨rfl, rfl⟩
        obtain ⟨lv, hlv⟩ : ∃ lv, lv = leastV h.op k := ⟨_, rfl⟩
        have HL := Lib.hid hlv
        rw [← hlv]
        clear hlv
        by_cases hA : m < lv
        · have HF : Hid (r = false) := Lib.hid (HNB.out (fun hh => by have := (hh.2 (by omega)).1; rw [← HL.out] at this; omega))
          go_wp2_with fail
          go_ret
          exact ⟨ret1 (congrArg Value.bool HF.out.symm), hB1.trans (hB2.mono hB1.size)⟩
        · have gA : decide (m < lv) = false := by simp; omega
          by_cases hC : 999 < m
          · have HF : Hid (r = false) := Lib.hid (HNB.out (fun hh => by have := (hh.2 (by omega)).2; omega))
            go_wp2_with fail
            go_ret
            exact ⟨ret1 (congrArg Value.bool HF.out.symm), hB1.trans (hB2.mono hB1.size)⟩
          · have HJ : Hid (okN u h.op k (nAt h k)) := Lib.hid (by rw [HM0.out]; exact ⟨fun h => by omega, fun _ => ⟨by rw [← HL.out]; omega, by omega⟩⟩)
            have gC : decide (999 < m) = false := by simp; omega
            go_wp2_with fail
            go_roundw
            case rel => exact ⟨k + 1, by omega, by go_num, fun j hj => by
              by_cases e : j = k
              · subst e; exact HJ.out
              · exact HOK.out j (by omega), hB2⟩
            case measure => simp [intOf]; omega
    · obtain rfl : k = 3 := by omega
      have HF : Hid (r = true) := Lib.hid (HR.out.1 (fun j hj => HOK.out j hj))
      go_wp2_with fail
      go_ret
      exact ⟨ret1 (congrArg Value.bool HF.out.symm), hB1.trans (hB.mono hB1.size)⟩
end Go.Proofs.YticjhkfidgkecaaGreatDoor
 
