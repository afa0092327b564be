/- every, with slices.ContainsFunc and IndexFunc, at numbers, lines, rates and prices. -/
import Derived.Test.YtbdnocijhbkclaaGreatDoorF2
namespace Go.Proofs.YtbdnocijhbkclaaGreatDoor
open Go.RowKit Go.Shelf

set_option maxRecDepth 100000 in
set_option maxHeartbeats 2000000 in
/-- the closure of every: not valid -/
theorem ec_i (V : Nat) (eg : ∀ args w, (callFunc V args).run Tryz.prog w = .ok (.enter V args) w) (x : Int) (y : Bool) (bl : Nat) (w : World) (h : w.cell? ⟨bl, 0, none⟩ = some (.func (.func V) #[] #[]))
    (hc : ∀ W, Below w.heap.size w W → Calls Tryz.prog V #[(.int .i64 x)] W fun e w' => e = .returned (.bool y) ∧ Below W.heap.size W w') :
    Calls Tryz.prog 45 #[(.int .i64 x), .pointer (some ⟨bl, 0, none⟩)] w fun e w' => e = .returned (.bool (!y)) ∧ Below w.heap.size w w' := by
  have HC := Lib.hid (hc w (Below.refl _ _))
  clear hc
  go_enter Tryz.func45, Tryz.ntmps45
  go_wp2_with fail
  refine HC.out.mono ?_
  rintro e w1 ⟨rfl, hb⟩
  go_wp2
  go_ret
  exact ⟨rfl, hb⟩

set_option maxRecDepth 100000 in
set_option maxHeartbeats 2000000 in
theorem idx_i (F : Nat) (eg : ∀ args w, (callFunc F args).run Tryz.prog w = .ok (.enter F args) w) (cb : Array Value) (A : Option Addr) (l : List Int) (c m : Nat) (hm : l.length = m) (hm6 : m ≤ maxLen) (p : Int → Bool) (v : Bool) (hv1 : (∀ x, x ∈ l → p x = false) → v = false) (hv2 : ∀ x, x ∈ l → p x = true → v = true) (w0 : World) (hI : Rows inL 1 w0 A l)
    (hf : ∀ x, x ∈ l → ∀ W, Below w0.heap.size w0 W → Calls Tryz.prog F (#[(.int .i64 x)] ++ cb) W fun e W' => e = .returned (.bool (p x)) ∧ Below W.heap.size W W')
    (w : World) (hB : Below w0.heap.size w0 w) :
    Calls Tryz.prog 65 #[.slice A m c, .func (.func F) #[] cb] w fun e w' => ∃ r : Int, e = .returned (.int .i64 r) ∧ decide (0 ≤ r) = v ∧ Below w0.heap.size w0 w' := by
  have hm63 : m ≤ 9223372036854775807 := by unfold maxLen at hm6; omega
  have HF := Lib.hid hf
  have HI := Lib.hid hI
  have HM := Lib.hid hm
  have HV1 := Lib.hid hv1
  have HV2 := Lib.hid hv2
  clear hf hI hm hv1 hv2 hm6
  go_enter Tryz.func65, Tryz.ntmps65
  go_wp2
  go_loopw [5, 8] (fun _ i wr => ∃ k : Nat, k ≤ m ∧ i = .int .i64 k ∧ Hid (∀ (i : Nat) (hi : i < l.length), i < k → p l[i] = false) ∧ Below w0.heap.size w0 wr) (fun _ i _ => m - (intOf i).toNat)
  case atStart => exact ⟨0, Nat.zero_le _, rfl, Lib.hid (fun i _ hi => absurd hi (Nat.not_lt_zero _)), hB⟩
  case round =>
    obtain ⟨k, hk, rfl, hall, hW⟩ := hrel
    obtain ⟨wo, rfl⟩ : ∃ wo, wo = wr := ⟨_, rfl⟩
    by_cases hlt : k < m
    · have hltI : (k : Int) < (m : Int) := by omega
      have hkx : k < l.length := by rw [HM.out]; exact hlt
      obtain ⟨bx, ox, rfl, hbx, hcx⟩ := HI.out.open (by omega)
      have q0 := row_cell (mk := Value.int .i64) hbx hcx hW hkx
      have hcl := HF.out l[k] (List.getElem_mem hkx) wo hW
      have HV3 := Lib.hid (HV2.out l[k] (List.getElem_mem hkx))
      have HY : Hid (∀ (i : Nat) (hi : i < l.length), i = k → p l[i] = p l[k]) := Lib.hid (fun i hi e => by subst e; rfl)
      clear hcx
      generalize l[k] = x at *
      obtain ⟨y, hy⟩ : ∃ y, p x = y := ⟨_, rfl⟩
      rw [hy] at hcl HV3 HY
      have HC := Lib.hid hcl
      clear hcl hy
      cases y with
      | true =>
        have HT := Lib.hid (HV3.out rfl)
        go_wp2_with (fail)
        refine HC.out.mono ?_
        rintro e w' ⟨rfl, hb1⟩
        have hB2 := hW.trans (hb1.mono hW.size)
        go_wp2
        go_ret
        exact ⟨_, rfl, by rw [HT.out]; simp, hB2⟩
      | false =>
        go_wp2_with (fail)
        refine HC.out.mono ?_
        rintro e w' ⟨rfl, hb1⟩
        have hB2 := hW.trans (hb1.mono hW.size)
        go_wp2
        go_roundw
        case rel => exact ⟨k + 1, by omega, by go_num, Lib.hid (fun i hi hik => by
          rcases Nat.lt_succ_iff_lt_or_eq.1 hik with h' | h'
          · exact hall.out i hi h'
          · exact HY.out i hi h'), hB2⟩
        case measure => simp [intOf]; omega
    · obtain rfl : k = m := by omega
      have HE := Lib.hid (HV1.out (fun x hx => by
        obtain ⟨i, hi, rfl⟩ := List.getElem_of_mem hx
        exact hall.out i hi (by rw [← HM.out]; exact hi)))
      go_wp2
      go_ret
      exact ⟨_, rfl, by rw [HE.out]; rfl, hW⟩

set_option maxRecDepth 100000 in
set_option maxHeartbeats 2000000 in
/-- every: all are valid -/
theorem every_i (V : Nat) (eg : ∀ args w, (callFunc V args).run Tryz.prog w = .ok (.enter V args) w) (A : Option Addr) (l : List Int) (c m : Nat) (hm : l.length = m) (hm6 : m ≤ maxLen) (p : Int → Bool) (v : Bool) (hv : l.all p = v) (w : World) (hI : Rows inL 1 w A l)
    (hf : ∀ x, x ∈ l → ∀ W, Below w.heap.size w W → Calls Tryz.prog V #[(.int .i64 x)] W fun e W' => e = .returned (.bool (p x)) ∧ Below W.heap.size W W') :
    Calls Tryz.prog 23 #[.slice A m c, .func (.func V) #[] #[]] w fun e w' => e = .returned (.bool v) ∧ Below w.heap.size w w' := by
  have hB := (Below.refl w.heap.size w).alloc (Nat.le_refl _) (.cells #[.func (.func V) #[] #[]] 59)
  have bX := Blk.new w 59 #[.func (.func V) #[] #[]]
  have hlt := bX.lt
  generalize hw1 : w.alloc (.cells #[.func (.func V) #[] #[]] 59) = w1 at hB bX hlt
  have ec : ∀ args w, (callFunc 45 args).run Tryz.prog w = .ok (.enter 45 args) w := enters_of Tryz.func45 (by kernel_rfl) rfl
  have HIX := Lib.hid (idx_i 45 ec #[.pointer (some ⟨w.heap.size, 0, none⟩)] A l c m hm hm6 (fun x => !p x) (!v)
    (fun h => by
      rw [← hv, Bool.not_eq_false', List.all_eq_true]
      intro x hx
      have := h x hx
      simpa using this)
    (fun x hx h => by
      rw [← hv, Bool.not_eq_true', ← Bool.not_eq_true, List.all_eq_true]
      intro h'
      rw [h' x hx] at h
      cases h)
    w1 (hI.below hB) (fun x hx W hW => by
      have h0 : W.cell? ⟨w.heap.size, 0, none⟩ = some (.func (.func V) #[] #[]) := (hW.cell (p := ⟨w.heap.size, 0, none⟩) hlt).trans (bX.cell 0)
      exact ec_i V eg x _ w.heap.size W h0 (fun W2 hW2 => hf x hx W2 ((hB.trans (hW.mono hB.size)).trans (hW2.mono (Nat.le_trans hB.size hW.size))))) w1 (Below.refl _ _))
  have HCF : Hid (Calls Tryz.prog 44 #[.slice A m c, .func (.func 45) #[] #[.pointer (some ⟨w.heap.size, 0, none⟩)]] w1 fun e w' => e = .returned (.bool (!v)) ∧ Below w1.heap.size w1 w') := by
    refine Lib.hid ?_
    clear hf hI hm hv hw1 hB bX hlt
    go_enter Tryz.func44, Tryz.ntmps44
    go_wp2_with fail
    refine HIX.out.mono ?_
    rintro e w2 ⟨r, rfl, hr, hb⟩
    have HV : Hid ((!v) = decide (0 ≤ r)) := Lib.hid hr.symm
    clear hr
    go_wp2
    go_ret
    exact ⟨by rw [HV.out]; rfl, hb⟩
  subst hw1
  clear hf hI hm hv HIX bX hlt
  go_enter Tryz.func23, Tryz.ntmps23
  go_wp2_with fail
  refine HCF.out.mono ?_
  rintro e w2 ⟨rfl, hb⟩
  have hB2 := hB.trans (hb.mono hB.size)
  go_wp2
  go_ret
  exact ⟨by cases v <;> rfl, hB2⟩


set_option maxRecDepth 100000 in
set_option maxHeartbeats 2000000 in
/-- the closure of every: not valid -/
theorem ec_l (V : Nat) (eg : ∀ args w, (callFunc V args).run Tryz.prog w = .ok (.enter V args) w) (x : Pl.Ln) (y : Bool) (bl : Nat) (w : World) (h : w.cell? ⟨bl, 0, none⟩ = some (.func (.func V) #[] #[]))
    (hc : ∀ W, Below w.heap.size w W → Calls Tryz.prog V #[(.agg (lnA x))] W fun e w' => e = .returned (.bool y) ∧ Below W.heap.size W w') :
    Calls Tryz.prog 55 #[(.agg (lnA x)), .pointer (some ⟨bl, 0, none⟩)] w fun e w' => e = .returned (.bool (!y)) ∧ Below w.heap.size w w' := by
  have hB := (Below.refl w.heap.size w).alloc (Nat.le_refl _) (.cells (lnA x) 45)
  have bX := Blk.new w 45 (lnA x)
  have hr := bX.range
  have hlt : bl < w.heap.size := by
    rcases Nat.lt_or_ge bl w.heap.size with h' | h'
    · exact h'
    · unfold World.cell? at h; rw [Array.getElem?_eq_none h'] at h; cases h
  have h2 := (hB.cell (p := ⟨bl, 0, none⟩) hlt).trans h
  have HC := Lib.hid (hc _ hB)
  clear hc bX h
  go_enter Tryz.func55, Tryz.ntmps55
  go_wp2_with (refine ldm_ln hr rfl _ rfl rfl ?_)
  refine HC.out.mono ?_
  rintro e w1 ⟨rfl, hb⟩
  have hB2 := hB.trans (hb.mono hB.size)
  go_wp2
  go_ret
  exact ⟨rfl, hB2⟩

set_option maxRecDepth 100000 in
set_option maxHeartbeats 2000000 in
theorem idx_l (F : Nat) (eg : ∀ args w, (callFunc F args).run Tryz.prog w = .ok (.enter F args) w) (cb : Array Value) (A : Option Addr) (l : List Pl.Ln) (c m : Nat) (hm : l.length = m) (hm6 : m ≤ maxLen) (p : Pl.Ln → Bool) (v : Bool) (hv1 : (∀ x, x ∈ l → p x = false) → v = false) (hv2 : ∀ x, x ∈ l → p x = true → v = true) (w0 : World) (hI : Rows lnL 4 w0 A l)
    (hf : ∀ x, x ∈ l → ∀ W, Below w0.heap.size w0 W → Calls Tryz.prog F (#[(.agg (lnA x))] ++ cb) W fun e W' => e = .returned (.bool (p x)) ∧ Below W.heap.size W W')
    (w : World) (hB : Below w0.heap.size w0 w) :
    Calls Tryz.prog 69 #[.slice A m c, .func (.func F) #[] cb] w fun e w' => ∃ r : Int, e = .returned (.int .i64 r) ∧ decide (0 ≤ r) = v ∧ Below w0.heap.size w0 w' := by
  have hm63 : m ≤ 9223372036854775807 := by unfold maxLen at hm6; omega
  have HF := Lib.hid hf
  have HI := Lib.hid hI
  have HM := Lib.hid hm
  have HV1 := Lib.hid hv1
  have HV2 := Lib.hid hv2
  clear hf hI hm hv1 hv2 hm6
  go_enter Tryz.func69, Tryz.ntmps69
  go_wp2
  go_loopw [5, 8] (fun _ i wr => ∃ k : Nat, k ≤ m ∧ i = .int .i64 k ∧ Hid (∀ (i : Nat) (hi : i < l.length), i < k → p l[i] = false) ∧ Below w0.heap.size w0 wr) (fun _ i _ => m - (intOf i).toNat)
  case atStart => exact ⟨0, Nat.zero_le _, rfl, Lib.hid (fun i _ hi => absurd hi (Nat.not_lt_zero _)), hB⟩
  case round =>
    obtain ⟨k, hk, rfl, hall, hW⟩ := hrel
    obtain ⟨wo, rfl⟩ : ∃ wo, wo = wr := ⟨_, rfl⟩
    by_cases hlt : k < m
    · have hltI : (k : Int) < (m : Int) := by omega
      have hkx : k < l.length := by rw [HM.out]; exact hlt
      obtain ⟨bx, ox, rfl, hbx, hcx⟩ := HI.out.open (by omega)
      have hr := row_at hbx hcx hW hkx
      have hcl := HF.out l[k] (List.getElem_mem hkx) wo hW
      have HV3 := Lib.hid (HV2.out l[k] (List.getElem_mem hkx))
      have HY : Hid (∀ (i : Nat) (hi : i < l.length), i = k → p l[i] = p l[k]) := Lib.hid (fun i hi e => by subst e; rfl)
      clear hcx
      generalize l[k] = x at *
      obtain ⟨y, hy⟩ : ∃ y, p x = y := ⟨_, rfl⟩
      rw [hy] at hcl HV3 HY
      have HC := Lib.hid hcl
      clear hcl hy
      cases y with
      | true =>
        have HT := Lib.hid (HV3.out rfl)
        go_wp2_with (refine ldm_ln hr rfl _ rfl rfl ?_)
        refine HC.out.mono ?_
        rintro e w' ⟨rfl, hb1⟩
        have hB2 := hW.trans (hb1.mono hW.size)
        go_wp2
        go_ret
        exact ⟨_, rfl, by rw [HT.out]; simp, hB2⟩
      | false =>
        go_wp2_with (refine ldm_ln hr rfl _ rfl rfl ?_)
        refine HC.out.mono ?_
        rintro e w' ⟨rfl, hb1⟩
        have hB2 := hW.trans (hb1.mono hW.size)
        go_wp2
        go_roundw
        case rel => exact ⟨k + 1, by omega, by go_num, Lib.hid (fun i hi hik => by
          rcases Nat.lt_succ_iff_lt_or_eq.1 hik with h' | h'
          · exact hall.out i hi h'
          · exact HY.out i hi h'), hB2⟩
        case measure => simp [intOf]; omega
    · obtain rfl : k = m := by omega
      have HE := Lib.hid (HV1.out (fun x hx => by
        obtain ⟨i, hi, rfl⟩ := List.getElem_of_mem hx
        exact hall.out i hi (by rw [← HM.out]; exact hi)))
      go_wp2
      go_ret
      exact ⟨_, rfl, by rw [HE.out]; rfl, hW⟩

set_option maxRecDepth 100000 in
set_option maxHeartbeats 2000000 in
/-- every: all are valid -/
theorem every_l (V : Nat) (eg : ∀ args w, (callFunc V args).run Tryz.prog w = .ok (.enter V args) w) (A : Option Addr) (l : List Pl.Ln) (c m : Nat) (hm : l.length = m) (hm6 : m ≤ maxLen) (p : Pl.Ln → Bool) (v : Bool) (hv : l.all p = v) (w : World) (hI : Rows lnL 4 w A l)
    (hf : ∀ x, x ∈ l → ∀ W, Below w.heap.size w W → Calls Tryz.prog V #[(.agg (lnA x))] W fun e W' => e = .returned (.bool (p x)) ∧ Below W.heap.size W W') :
    Calls Tryz.prog 33 #[.slice A m c, .func (.func V) #[] #[]] w fun e w' => e = .returned (.bool v) ∧ Below w.heap.size w w' := by
  have hB := (Below.refl w.heap.size w).alloc (Nat.le_refl _) (.cells #[.func (.func V) #[] #[]] 66)
  have bX := Blk.new w 66 #[.func (.func V) #[] #[]]
  have hlt := bX.lt
  generalize hw1 : w.alloc (.cells #[.func (.func V) #[] #[]] 66) = w1 at hB bX hlt
  have ec : ∀ args w, (callFunc 55 args).run Tryz.prog w = .ok (.enter 55 args) w := enters_of Tryz.func55 (by kernel_rfl) rfl
  have HIX := Lib.hid (idx_l 55 ec #[.pointer (some ⟨w.heap.size, 0, none⟩)] A l c m hm hm6 (fun x => !p x) (!v)
    (fun h => by
      rw [← hv, Bool.not_eq_false', List.all_eq_true]
      intro x hx
      have := h x hx
      simpa using this)
    (fun x hx h => by
      rw [← hv, Bool.not_eq_true', ← Bool.not_eq_true, List.all_eq_true]
      intro h'
      rw [h' x hx] at h
      cases h)
    w1 (hI.below hB) (fun x hx W hW => by
      have h0 : W.cell? ⟨w.heap.size, 0, none⟩ = some (.func (.func V) #[] #[]) := (hW.cell (p := ⟨w.heap.size, 0, none⟩) hlt).trans (bX.cell 0)
      exact ec_l V eg x _ w.heap.size W h0 (fun W2 hW2 => hf x hx W2 ((hB.trans (hW.mono hB.size)).trans (hW2.mono (Nat.le_trans hB.size hW.size))))) w1 (Below.refl _ _))
  have HCF : Hid (Calls Tryz.prog 54 #[.slice A m c, .func (.func 55) #[] #[.pointer (some ⟨w.heap.size, 0, none⟩)]] w1 fun e w' => e = .returned (.bool (!v)) ∧ Below w1.heap.size w1 w') := by
    refine Lib.hid ?_
    clear hf hI hm hv hw1 hB bX hlt
    go_enter Tryz.func54, Tryz.ntmps54
    go_wp2_with fail
    refine HIX.out.mono ?_
    rintro e w2 ⟨r, rfl, hr, hb⟩
    have HV : Hid ((!v) = decide (0 ≤ r)) := Lib.hid hr.symm
    clear hr
    go_wp2
    go_ret
    exact ⟨by rw [HV.out]; rfl, hb⟩
  subst hw1
  clear hf hI hm hv HIX bX hlt
  go_enter Tryz.func33, Tryz.ntmps33
  go_wp2_with fail
  refine HCF.out.mono ?_
  rintro e w2 ⟨rfl, hb⟩
  have hB2 := hB.trans (hb.mono hB.size)
  go_wp2
  go_ret
  exact ⟨by cases v <;> rfl, hB2⟩


set_option maxRecDepth 100000 in
set_option maxHeartbeats 2000000 in
/-- the closure of every: not valid -/
theorem ec_r (V : Nat) (eg : ∀ args w, (callFunc V args).run Tryz.prog w = .ok (.enter V args) w) (x : Pl.Rt) (y : Bool) (bl : Nat) (w : World) (h : w.cell? ⟨bl, 0, none⟩ = some (.func (.func V) #[] #[]))
    (hc : ∀ W, Below w.heap.size w W → Calls Tryz.prog V #[(.agg (rtA x))] W fun e w' => e = .returned (.bool y) ∧ Below W.heap.size W w') :
    Calls Tryz.prog 67 #[(.agg (rtA x)), .pointer (some ⟨bl, 0, none⟩)] w fun e w' => e = .returned (.bool (!y)) ∧ Below w.heap.size w w' := by
  have hB := (Below.refl w.heap.size w).alloc (Nat.le_refl _) (.cells (rtA x) 43)
  have bX := Blk.new w 43 (rtA x)
  have hr := bX.range
  have hlt : bl < w.heap.size := by
    rcases Nat.lt_or_ge bl w.heap.size with h' | h'
    · exact h'
    · unfold World.cell? at h; rw [Array.getElem?_eq_none h'] at h; cases h
  have h2 := (hB.cell (p := ⟨bl, 0, none⟩) hlt).trans h
  have HC := Lib.hid (hc _ hB)
  clear hc bX h
  go_enter Tryz.func67, Tryz.ntmps67
  go_wp2_with (refine ldm_rt hr rfl _ rfl rfl ?_)
  refine HC.out.mono ?_
  rintro e w1 ⟨rfl, hb⟩
  have hB2 := hB.trans (hb.mono hB.size)
  go_wp2
  go_ret
  exact ⟨rfl, hB2⟩

set_option maxRecDepth 100000 in
set_option maxHeartbeats 2000000 in
theorem idx_r (F : Nat) (eg : ∀ args w, (callFunc F args).run Tryz.prog w = .ok (.enter F args) w) (cb : Array Value) (A : Option Addr) (l : List Pl.Rt) (c m : Nat) (hm : l.length = m) (hm6 : m ≤ maxLen) (p : Pl.Rt → Bool) (v : Bool) (hv1 : (∀ x, x ∈ l → p x = false) → v = false) (hv2 : ∀ x, x ∈ l → p x = true → v = true) (w0 : World) (hI : Rows rtL 4 w0 A l)
    (hf : ∀ x, x ∈ l → ∀ W, Below w0.heap.size w0 W → Calls Tryz.prog F (#[(.agg (rtA x))] ++ cb) W fun e W' => e = .returned (.bool (p x)) ∧ Below W.heap.size W W')
    (w : World) (hB : Below w0.heap.size w0 w) :
    Calls Tryz.prog 76 #[.slice A m c, .func (.func F) #[] cb] w fun e w' => ∃ r : Int, e = .returned (.int .i64 r) ∧ decide (0 ≤ r) = v ∧ Below w0.heap.size w0 w' := by
  have hm63 : m ≤ 9223372036854775807 := by unfold maxLen at hm6; omega
  have HF := Lib.hid hf
  have HI := Lib.hid hI
  have HM := Lib.hid hm
  have HV1 := Lib.hid hv1
  have HV2 := Lib.hid hv2
  clear hf hI hm hv1 hv2 hm6
  go_enter Tryz.func76, Tryz.ntmps76
  go_wp2
  go_loopw [5, 8] (fun _ i wr => ∃ k : Nat, k ≤ m ∧ i = .int .i64 k ∧ Hid (∀ (i : Nat) (hi : i < l.length), i < k → p l[i] = false) ∧ Below w0.heap.size w0 wr) (fun _ i _ => m - (intOf i).toNat)
  case atStart => exact ⟨0, Nat.zero_le _, rfl, Lib.hid (fun i _ hi => absurd hi (Nat.not_lt_zero _)), hB⟩
  case round =>
    obtain ⟨k, hk, rfl, hall, hW⟩ := hrel
    obtain ⟨wo, rfl⟩ : ∃ wo, wo = wr := ⟨_, rfl⟩
    by_cases hlt : k < m
    · have hltI : (k : Int) < (m : Int) := by omega
      have hkx : k < l.length := by rw [HM.out]; exact hlt
      obtain ⟨bx, ox, rfl, hbx, hcx⟩ := HI.out.open (by omega)
      have hr := row_at hbx hcx hW hkx
      have hcl := HF.out l[k] (List.getElem_mem hkx) wo hW
      have HV3 := Lib.hid (HV2.out l[k] (List.getElem_mem hkx))
      have HY : Hid (∀ (i : Nat) (hi : i < l.length), i = k → p l[i] = p l[k]) := Lib.hid (fun i hi e => by subst e; rfl)
      clear hcx
      generalize l[k] = x at *
      obtain ⟨y, hy⟩ : ∃ y, p x = y := ⟨_, rfl⟩
      rw [hy] at hcl HV3 HY
      have HC := Lib.hid hcl
      clear hcl hy
      cases y with
      | true =>
        have HT := Lib.hid (HV3.out rfl)
        go_wp2_with (refine ldm_rt hr rfl _ rfl rfl ?_)
        refine HC.out.mono ?_
        rintro e w' ⟨rfl, hb1⟩
        have hB2 := hW.trans (hb1.mono hW.size)
        go_wp2
        go_ret
        exact ⟨_, rfl, by rw [HT.out]; simp, hB2⟩
      | false =>
        go_wp2_with (refine ldm_rt hr rfl _ rfl rfl ?_)
        refine HC.out.mono ?_
        rintro e w' ⟨rfl, hb1⟩
        have hB2 := hW.trans (hb1.mono hW.size)
        go_wp2
        go_roundw
        case rel => exact ⟨k + 1, by omega, by go_num, Lib.hid (fun i hi hik => by
          rcases Nat.lt_succ_iff_lt_or_eq.1 hik with h' | h'
          · exact hall.out i hi h'
          · exact HY.out i hi h'), hB2⟩
        case measure => simp [intOf]; omega
    · obtain rfl : k = m := by omega
      have HE := Lib.hid (HV1.out (fun x hx => by
        obtain ⟨i, hi, rfl⟩ := List.getElem_of_mem hx
        exact hall.out i hi (by rw [← HM.out]; exact hi)))
      go_wp2
      go_ret
      exact ⟨_, rfl, by rw [HE.out]; rfl, hW⟩

set_option maxRecDepth 100000 in
set_option maxHeartbeats 2000000 in
/-- every: all are valid -/
theorem every_r (V : Nat) (eg : ∀ args w, (callFunc V args).run Tryz.prog w = .ok (.enter V args) w) (A : Option Addr) (l : List Pl.Rt) (c m : Nat) (hm : l.length = m) (hm6 : m ≤ maxLen) (p : Pl.Rt → Bool) (v : Bool) (hv : l.all p = v) (w : World) (hI : Rows rtL 4 w A l)
    (hf : ∀ x, x ∈ l → ∀ W, Below w.heap.size w W → Calls Tryz.prog V #[(.agg (rtA x))] W fun e W' => e = .returned (.bool (p x)) ∧ Below W.heap.size W W') :
    Calls Tryz.prog 47 #[.slice A m c, .func (.func V) #[] #[]] w fun e w' => e = .returned (.bool v) ∧ Below w.heap.size w w' := by
  have hB := (Below.refl w.heap.size w).alloc (Nat.le_refl _) (.cells #[.func (.func V) #[] #[]] 76)
  have bX := Blk.new w 76 #[.func (.func V) #[] #[]]
  have hlt := bX.lt
  generalize hw1 : w.alloc (.cells #[.func (.func V) #[] #[]] 76) = w1 at hB bX hlt
  have ec : ∀ args w, (callFunc 67 args).run Tryz.prog w = .ok (.enter 67 args) w := enters_of Tryz.func67 (by kernel_rfl) rfl
  have HIX := Lib.hid (idx_r 67 ec #[.pointer (some ⟨w.heap.size, 0, none⟩)] A l c m hm hm6 (fun x => !p x) (!v)
    (fun h => by
      rw [← hv, Bool.not_eq_false', List.all_eq_true]
      intro x hx
      have := h x hx
      simpa using this)
    (fun x hx h => by
      rw [← hv, Bool.not_eq_true', ← Bool.not_eq_true, List.all_eq_true]
      intro h'
      rw [h' x hx] at h
      cases h)
    w1 (hI.below hB) (fun x hx W hW => by
      have h0 : W.cell? ⟨w.heap.size, 0, none⟩ = some (.func (.func V) #[] #[]) := (hW.cell (p := ⟨w.heap.size, 0, none⟩) hlt).trans (bX.cell 0)
      exact ec_r V eg x _ w.heap.size W h0 (fun W2 hW2 => hf x hx W2 ((hB.trans (hW.mono hB.size)).trans (hW2.mono (Nat.le_trans hB.size hW.size))))) w1 (Below.refl _ _))
  have HCF : Hid (Calls Tryz.prog 66 #[.slice A m c, .func (.func 67) #[] #[.pointer (some ⟨w.heap.size, 0, none⟩)]] w1 fun e w' => e = .returned (.bool (!v)) ∧ Below w1.heap.size w1 w') := by
    refine Lib.hid ?_
    clear hf hI hm hv hw1 hB bX hlt
    go_enter Tryz.func66, Tryz.ntmps66
    go_wp2_with fail
    refine HIX.out.mono ?_
    rintro e w2 ⟨r, rfl, hr, hb⟩
    have HV : Hid ((!v) = decide (0 ≤ r)) := Lib.hid hr.symm
    clear hr
    go_wp2
    go_ret
    exact ⟨by rw [HV.out]; rfl, hb⟩
  subst hw1
  clear hf hI hm hv HIX bX hlt
  go_enter Tryz.func47, Tryz.ntmps47
  go_wp2_with fail
  refine HCF.out.mono ?_
  rintro e w2 ⟨rfl, hb⟩
  have hB2 := hB.trans (hb.mono hB.size)
  go_wp2
  go_ret
  exact ⟨by cases v <;> rfl, hB2⟩


end Go.Proofs.YtbdnocijhbkclaaGreatDoor
