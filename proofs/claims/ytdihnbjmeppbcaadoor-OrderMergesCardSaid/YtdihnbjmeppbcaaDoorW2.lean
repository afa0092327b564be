/- every, with slices.ContainsFunc and IndexFunc, at numbers, lines, rates and prices. -/
import Derived.Test.YtdihnbjmeppbcaaDoorF2
namespace Go.Proofs.YtdihnbjmeppbcaaDoor
open Go.RowKit Go.Shelf

set_option maxRecDepth 100000 in
set_option maxHeartbeats 2000000 in
/-- the closure of every: not valid -/
theorem ec_i (V : Nat) (eg : ∀ args w, (callFunc V args).run Tryd.prog w = .ok (.enter V args) w) (x : Int) (y : Bool) (bl : Nat) (w : World) (h : w.cell? ⟨bl, 0, none⟩ = some (.func (.func V) #[] #[]))
    (hc : ∀ W, Below w.heap.size w W → Calls Tryd.prog V #[(.int .i64 x)] W fun e w' => e = .returned (.bool y) ∧ Below W.heap.size W w') :
    Calls Tryd.prog 96 #[(.int .i64 x), .pointer (some ⟨bl, 0, none⟩)] w fun e w' => e = .returned (.bool (!y)) ∧ Below w.heap.size w w' := by
  have HC := Lib.hid (hc w (Below.refl _ _))
  clear hc
  go_enter Tryd.func96, Tryd.ntmps96
  go_wp2_with fail
  refine HC.out.mono ?_
  rintro e w1 ⟨rfl, hb⟩
  go_wp2
  go_ret
  exact ⟨rfl, hb⟩

set_option maxRecDepth 100000 in
set_option maxHeartbeats 2000000 in
theorem idx_i (F : Nat) (eg : ∀ args w, (callFunc F args).run Tryd.prog w = .ok (.enter F args) w) (cb : Array Value) (A : Option Addr) (l : List Int) (c m : Nat) (hm : l.length = m) (hm6 : m ≤ maxLen) (p : Int → Bool) (v : Bool) (hv1 : (∀ x, x ∈ l → p x = false) → v = false) (hv2 : ∀ x, x ∈ l → p x = true → v = true) (w0 : World) (hI : Rows inL 1 w0 A l)
    (hf : ∀ x, x ∈ l → ∀ W, Below w0.heap.size w0 W → Calls Tryd.prog F (#[(.int .i64 x)] ++ cb) W fun e W' => e = .returned (.bool (p x)) ∧ Below W.heap.size W W')
    (w : World) (hB : Below w0.heap.size w0 w) :
    Calls Tryd.prog 103 #[.slice A m c, .func (.func F) #[] cb] w fun e w' => ∃ r : Int, e = .returned (.int .i64 r) ∧ decide (0 ≤ r) = v ∧ Below w0.heap.size w0 w' := by
  have hm63 : m ≤ 9223372036854775807 := by unfold maxLen at hm6; omega
  have HF := Lib.hid hf
  have HI := Lib.hid hI
  have HM := Lib.hid hm
  have HV1 := Lib.hid hv1
  have HV2 := Lib.hid hv2
  clear hf hI hm hv1 hv2 hm6
  go_enter Tryd.func103, Tryd.ntmps103
  go_wp2
  go_loopw [5, 8] (fun _ i wr => ∃ k : Nat, k ≤ m ∧ i = .int .i64 k ∧ Hid (∀ (i : Nat) (hi : i < l.length), i < k → p l[i] = false) ∧ Below w0.heap.size w0 wr) (fun _ i _ => m - (intOf i).toNat)
  case atStart => exact ⟨0, Nat.zero_le _, rfl, Lib.hid (fun i _ hi => absurd hi (Nat.not_lt_zero _)), hB⟩
  case round =>
    obtain ⟨k, hk, rfl, hall, hW⟩ := hrel
    obtain ⟨wo, rfl⟩ : ∃ wo, wo = wr := ⟨_, rfl⟩
    by_cases hlt : k < m
    · have hltI : (k : Int) < (m : Int) := by omega
      have hkx : k < l.length := by rw [HM.out]; exact hlt
      obtain ⟨bx, ox, rfl, hbx, hcx⟩ := HI.out.open (by omega)
      have q0 := row_cell (mk := Value.int .i64) hbx hcx hW hkx
      have hcl := HF.out l[k] (List.getElem_mem hkx) wo hW
      have HV3 := Lib.hid (HV2.out l[k] (List.getElem_mem hkx))
      have HY : Hid (∀ (i : Nat) (hi : i < l.length), i = k → p l[i] = p l[k]) := Lib.hid (fun i hi e => by subst e; rfl)
      clear hcx
      generalize l[k] = x at *
      obtain ⟨y, hy⟩ : ∃ y, p x = y := ⟨_, rfl⟩
      rw [hy] at hcl HV3 HY
      have HC := Lib.hid hcl
      clear hcl hy
      cases y with
      | true =>
        have HT := Lib.hid (HV3.out rfl)
        go_wp2_with (fail)
        refine HC.out.mono ?_
        rintro e w' ⟨rfl, hb1⟩
        have hB2 := hW.trans (hb1.mono hW.size)
        go_wp2
        go_ret
        exact ⟨_, rfl, by rw [HT.out]; simp, hB2⟩
      | false =>
        go_wp2_with (fail)
        refine HC.out.mono ?_
        rintro e w' ⟨rfl, hb1⟩
        have hB2 := hW.trans (hb1.mono hW.size)
        go_wp2
        go_roundw
        case rel => exact ⟨k + 1, by omega, by go_num, Lib.hid (fun i hi hik => by
          rcases Nat.lt_succ_iff_lt_or_eq.1 hik with h' | h'
          · exact hall.out i hi h'
          · exact HY.out i hi h'), hB2⟩
        case measure => simp [intOf]; omega
    · obtain rfl : k = m := by omega
      have HE := Lib.hid (HV1.out (fun x hx => by
        obtain ⟨i, hi, rfl⟩ := List.getElem_of_mem hx
        exact hall.out i hi (by rw [← HM.out]; exact hi)))
      go_wp2
      go_ret
      exact ⟨_, rfl, by rw [HE.out]; rfl, hW⟩

set_option maxRecDepth 100000 in
set_option maxHeartbeats 2000000 in
/-- every: all are valid -/
theorem every_i (V : Nat) (eg : ∀ args w, (callFunc V args).run Tryd.prog w = .ok (.enter V args) w) (A : Option Addr) (l : List Int) (c m : Nat) (hm : l.length = m) (hm6 : m ≤ maxLen) (p : Int → Bool) (v : Bool) (hv : l.all p = v) (w : World) (hI : Rows inL 1 w A l)
    (hf : ∀ x, x ∈ l → ∀ W, Below w.heap.size w W → Calls Tryd.prog V #[(.int .i64 x)] W fun e W' => e = .returned (.bool (p x)) ∧ Below W.heap.size W W') :
    Calls Tryd.prog 76 #[.slice A m c, .func (.func V) #[] #[]] w fun e w' => e = .returned (.bool v) ∧ Below w.heap.size w w' := by
  have hB := (Below.refl w.heap.size w).alloc (Nat.le_refl _) (.cells #[.func (.func V) #[] #[]] 78)
  have bX := Blk.new w 78 #[.func (.func V) #[] #[]]
  have hlt := bX.lt
  generalize hw1 : w.alloc (.cells #[.func (.func V) #[] #[]] 78) = w1 at hB bX hlt
  have ec : ∀ args w, (callFunc 96 args).run Tryd.prog w = .ok (.enter 96 args) w := enters_of Tryd.func96 (by kernel_rfl) rfl
  have HIX := Lib.hid (idx_i 96 ec #[.pointer (some ⟨w.heap.size, 0, none⟩)] A l c m hm hm6 (fun x => !p x) (!v)
    (fun h => by
      rw [← hv, Bool.not_eq_false', List.all_eq_true]
      intro x hx
      have := h x hx
      simpa using this)
    (fun x hx h => by
      rw [← hv, Bool.not_eq_true', ← Bool.not_eq_true, List.all_eq_true]
      intro h'
      rw [h' x hx] at h
      cases h)
    w1 (hI.below hB) (fun x hx W hW => by
      have h0 : W.cell? ⟨w.heap.size, 0, none⟩ = some (.func (.func V) #[] #[]) := (hW.cell (p := ⟨w.heap.size, 0, none⟩) hlt).trans (bX.cell 0)
      exact ec_i V eg x _ w.heap.size W h0 (fun W2 hW2 => hf x hx W2 ((hB.trans (hW.mono hB.size)).trans (hW2.mono (Nat.le_trans hB.size hW.size))))) w1 (Below.refl _ _))
  have HCF : Hid (Calls Tryd.prog 95 #[.slice A m c, .func (.func 96) #[] #[.pointer (some ⟨w.heap.size, 0, none⟩)]] w1 fun e w' => e = .returned (.bool (!v)) ∧ Below w1.heap.size w1 w') := by
    refine Lib.hid ?_
    clear hf hI hm hv hw1 hB bX hlt
    go_enter Tryd.func95, Tryd.ntmps95
    go_wp2_with fail
    refine HIX.out.mono ?_
    rintro e w2 ⟨r, rfl, hr, hb⟩
    have HV : Hid ((!v) = decide (0 ≤ r)) := Lib.hid hr.symm
    clear hr
    go_wp2
    go_ret
    exact ⟨by rw [HV.out]; rfl, hb⟩
  subst hw1
  clear hf hI hm hv HIX bX hlt
  go_enter Tryd.func76, Tryd.ntmps76
  go_wp2_with fail
  refine HCF.out.mono ?_
  rintro e w2 ⟨rfl, hb⟩
  have hB2 := hB.trans (hb.mono hB.size)
  go_wp2
  go_ret
  exact ⟨by cases v <;> rfl, hB2⟩


set_option maxRecDepth 100000 in
set_option maxHeartbeats 2000000 in
/-- the closure of every: not valid -/
theorem ec_l (V : Nat) (eg : ∀ args w, (callFunc V args).run Tryd.prog w = .ok (.enter V args) w) (x : Pl.Ln) (y : Bool) (bl : Nat) (w : World) (h : w.cell? ⟨bl, 0, none⟩ = some (.func (.func V) #[] #[]))
    (hc : ∀ W, Below w.heap.size w W → Calls Tryd.prog V #[(.agg (lnA x))] W fun e w' => e = .returned (.bool y) ∧ Below W.heap.size W w') :
    Calls Tryd.prog 91 #[(.agg (lnA x)), .pointer (some ⟨bl, 0, none⟩)] w fun e w' => e = .returned (.bool (!y)) ∧ Below w.heap.size w w' := by
  have hB := (Below.refl w.heap.size w).alloc (Nat.le_refl _) (.cells (lnA x) 55)
  have bX := Blk.new w 55 (lnA x)
  have hr := bX.range
  have hlt : bl < w.heap.size := by
    rcases Nat.lt_or_ge bl w.heap.size with h' | h'
    · exact h'
    · unfold World.cell? at h; rw [Array.getElem?_eq_none h'] at h; cases h
  have h2 := (hB.cell (p := ⟨bl, 0, none⟩) hlt).trans h
  have HC := Lib.hid (hc _ hB)
  clear hc bX h
  go_enter Tryd.func91, Tryd.ntmps91
  go_wp2_with (refine ldm_ln hr rfl _ rfl rfl ?_)
  refine HC.out.mono ?_
  rintro e w1 ⟨rfl, hb⟩
  have hB2 := hB.trans (hb.mono hB.size)
  go_wp2
  go_ret
  exact ⟨rfl, hB2⟩

set_option maxRecDepth 100000 in
set_option maxHeartbeats 2000000 in
theorem idx_l (F : Nat) (eg : ∀ args w, (callFunc F args).run Tryd.prog w = .ok (.enter F args) w) (cb : Array Value) (A : Option Addr) (l : List Pl.Ln) (c m : Nat) (hm : l.length = m) (hm6 : m ≤ maxLen) (p : Pl.Ln → Bool) (v : Bool) (hv1 : (∀ x, x ∈ l → p x = false) → v = false) (hv2 : ∀ x, x ∈ l → p x = true → v = true) (w0 : World) (hI : Rows lnL 4 w0 A l)
    (hf : ∀ x, x ∈ l → ∀ W, Below w0.heap.size w0 W → Calls Tryd.prog F (#[(.agg (lnA x))] ++ cb) W fun e W' => e = .returned (.bool (p x)) ∧ Below W.heap.size W W')
    (w : World) (hB : Below w0.heap.size w0 w) :
    Calls Tryd.prog 101 #[.slice A m c, .func (.func F) #[] cb] w fun e w' => ∃ r : Int, e = .returned (.int .i64 r) ∧ decide (0 ≤ r) = v ∧ Below w0.heap.size w0 w' := by
  have hm63 : m ≤ 9223372036854775807 := by unfold maxLen at hm6; omega
  have HF := Lib.hid hf
  have HI := Lib.hid hI
  have HM := Lib.hid hm
  have HV1 := Lib.hid hv1
  have HV2 := Lib.hid hv2
  clear hf hI hm hv1 hv2 hm6
  go_enter Tryd.func101, Tryd.ntmps101
  go_wp2
  go_loopw [5, 8] (fun _ i wr => ∃ k : Nat, k ≤ m ∧ i = .int .i64 k ∧ Hid (∀ (i : Nat) (hi : i < l.length), i < k → p l[i] = false) ∧ Below w0.heap.size w0 wr) (fun _ i _ => m - (intOf i).toNat)
  case atStart => exact ⟨0, Nat.zero_le _, rfl, Lib.hid (fun i _ hi => absurd hi (Nat.not_lt_zero _)), hB⟩
  case round =>
    obtain ⟨k, hk, rfl, hall, hW⟩ := hrel
    obtain ⟨wo, rfl⟩ : ∃ wo, wo = wr := ⟨_, rfl⟩
    by_cases hlt : k < m
    · have hltI : (k : Int) < (m : Int) := by omega
      have hkx : k < l.length := by rw [HM.out]; exact hlt
      obtain ⟨bx, ox, rfl, hbx, hcx⟩ := HI.out.open (by omega)
      have hr := row_at hbx hcx hW hkx
      have hcl := HF.out l[k] (List.getElem_mem hkx) wo hW
      have HV3 := Lib.hid (HV2.out l[k] (List.getElem_mem hkx))
      have HY : Hid (∀ (i : Nat) (hi : i < l.length), i = k → p l[i] = p l[k]) := Lib.hid (fun i hi e => by subst e; rfl)
      clear hcx
      generalize l[k] = x at *
      obtain ⟨y, hy⟩ : ∃ y, p x = y := ⟨_, rfl⟩
      rw [hy] at hcl HV3 HY
      have HC := Lib.hid hcl
      clear hcl hy
      cases y with
      | true =>
        have HT := Lib.hid (HV3.out rfl)
        go_wp2_with (refine ldm_ln hr rfl _ rfl rfl ?_)
        refine HC.out.mono ?_
        rintro e w' ⟨rfl, hb1⟩
        have hB2 := hW.trans (hb1.mono hW.size)
        go_wp2
        go_ret
        exact ⟨_, rfl, by rw [HT.out]; simp, hB2⟩
      | false =>
        go_wp2_with (refine ldm_ln hr rfl _ rfl rfl ?_)
        refine HC.out.mono ?_
        rintro e w' ⟨rfl, hb1⟩
        have hB2 := hW.trans (hb1.mono hW.size)
        go_wp2
        go_roundw
        case rel => exact ⟨k + 1, by omega, by go_num, Lib.hid (fun i hi hik => by
          rcases Nat.lt_succ_iff_lt_or_eq.1 hik with h' | h'
          · exact hall.out i hi h'
          · exact HY.out i hi h'), hB2⟩
        case measure => simp [intOf]; omega
    · obtain rfl : k = m := by omega
      have HE := Lib.hid (HV1.out (fun x hx => by
        obtain ⟨i, hi, rfl⟩ := List.getElem_of_mem hx
        exact hall.out i hi (by rw [← HM.out]; exact hi)))
      go_wp2
      go_ret
      exact ⟨_, rfl, by rw [HE.out]; rfl, hW⟩

set_option maxRecDepth 100000 in
set_option maxHeartbeats 2000000 in
/-- every: all are valid -/
theorem every_l (V : Nat) (eg : ∀ args w, (callFunc V args).run Tryd.prog w = .ok (.enter V args) w) (A : Option Addr) (l : List Pl.Ln) (c m : Nat) (hm : l.length = m) (hm6 : m ≤ maxLen) (p : Pl.Ln → Bool) (v : Bool) (hv : l.all p = v) (w : World) (hI : Rows lnL 4 w A l)
    (hf : ∀ x, x ∈ l → ∀ W, Below w.heap.size w W → Calls Tryd.prog V #[(.agg (lnA x))] W fun e W' => e = .returned (.bool (p x)) ∧ Below W.heap.size W W') :
    Calls Tryd.prog 58 #[.slice A m c, .func (.func V) #[] #[]] w fun e w' => e = .returned (.bool v) ∧ Below w.heap.size w w' := by
  have hB := (Below.refl w.heap.size w).alloc (Nat.le_refl _) (.cells #[.func (.func V) #[] #[]] 86)
  have bX := Blk.new w 86 #[.func (.func V) #[] #[]]
  have hlt := bX.lt
  generalize hw1 : w.alloc (.cells #[.func (.func V) #[] #[]] 86) = w1 at hB bX hlt
  have ec : ∀ args w, (callFunc 91 args).run Tryd.prog w = .ok (.enter 91 args) w := enters_of Tryd.func91 (by kernel_rfl) rfl
  have HIX := Lib.hid (idx_l 91 ec #[.pointer (some ⟨w.heap.size, 0, none⟩)] A l c m hm hm6 (fun x => !p x) (!v)
    (fun h => by
      rw [← hv, Bool.not_eq_false', List.all_eq_true]
      intro x hx
      have := h x hx
      simpa using this)
    (fun x hx h => by
      rw [← hv, Bool.not_eq_true', ← Bool.not_eq_true, List.all_eq_true]
      intro h'
      rw [h' x hx] at h
      cases h)
    w1 (hI.below hB) (fun x hx W hW => by
      have h0 : W.cell? ⟨w.heap.size, 0, none⟩ = some (.func (.func V) #[] #[]) := (hW.cell (p := ⟨w.heap.size, 0, none⟩) hlt).trans (bX.cell 0)
      exact ec_l V eg x _ w.heap.size W h0 (fun W2 hW2 => hf x hx W2 ((hB.trans (hW.mono hB.size)).trans (hW2.mono (Nat.le_trans hB.size hW.size))))) w1 (Below.refl _ _))
  have HCF : Hid (Calls Tryd.prog 90 #[.slice A m c, .func (.func 91) #[] #[.pointer (some ⟨w.heap.size, 0, none⟩)]] w1 fun e w' => e = .returned (.bool (!v)) ∧ Below w1.heap.size w1 w') := by
    refine Lib.hid ?_
    clear hf hI hm hv hw1 hB bX hlt
    go_enter Tryd.func90, Tryd.ntmps90
    go_wp2_with fail
    refine HIX.out.mono ?_
    rintro e w2 ⟨r, rfl, hr, hb⟩
    have HV : Hid ((!v) = decide (0 ≤ r)) := Lib.hid hr.symm
    clear hr
    go_wp2
    go_ret
    exact ⟨by rw [HV.out]; rfl, hb⟩
  subst hw1
  clear hf hI hm hv HIX bX hlt
  go_enter Tryd.func58, Tryd.ntmps58
  go_wp2_with fail
  refine HCF.out.mono ?_
  rintro e w2 ⟨rfl, hb⟩
  have hB2 := hB.trans (hb.mono hB.size)
  go_wp2
  go_ret
  exact ⟨by cases v <;> rfl, hB2⟩


set_option maxRecDepth 100000 in
set_option maxHeartbeats 2000000 in
/-- the closure of every: not valid -/
theorem ec_r (V : Nat) (eg : ∀ args w, (callFunc V args).run Tryd.prog w = .ok (.enter V args) w) (x : Pl.Rt) (y : Bool) (bl : Nat) (w : World) (h : w.cell? ⟨bl, 0, none⟩ = some (.func (.func V) #[] #[]))
    (hc : ∀ W, Below w.heap.size w W → Calls Tryd.prog V #[(.agg (rtA x))] W fun e w' => e = .returned (.bool y) ∧ Below W.heap.size W w') :
    Calls Tryd.prog 88 #[(.agg (rtA x)), .pointer (some ⟨bl, 0, none⟩)] w fun e w' => e = .returned (.bool (!y)) ∧ Below w.heap.size w w' := by
  have hB := (Below.refl w.heap.size w).alloc (Nat.le_refl _) (.cells (rtA x) 70)
  have bX := Blk.new w 70 (rtA x)
  have hr := bX.range
  have hlt : bl < w.heap.size := by
    rcases Nat.lt_or_ge bl w.heap.size with h' | h'
    · exact h'
    · unfold World.cell? at h; rw [Array.getElem?_eq_none h'] at h; cases h
  have h2 := (hB.cell (p := ⟨bl, 0, none⟩) hlt).trans h
  have HC := Lib.hid (hc _ hB)
  clear hc bX h
  go_enter Tryd.func88, Tryd.ntmps88
  go_wp2_with (refine ldm_rt hr rfl _ rfl rfl ?_)
  refine HC.out.mono ?_
  rintro e w1 ⟨rfl, hb⟩
  have hB2 := hB.trans (hb.mono hB.size)
  go_wp2
  go_ret
  exact ⟨rfl, hB2⟩

set_option maxRecDepth 100000 in
set_option maxHeartbeats 2000000 in
theorem idx_r (F : Nat) (eg : ∀ args w, (callFunc F args).run Tryd.prog w = .ok (.enter F args) w) (cb : Array Value) (A : Option Addr) (l : List Pl.Rt) (c m : Nat) (hm : l.length = m) (hm6 : m ≤ maxLen) (p : Pl.Rt → Bool) (v : Bool) (hv1 : (∀ x, x ∈ l → p x = false) → v = false) (hv2 : ∀ x, x ∈ l → p x = true → v = true) (w0 : World) (hI : Rows rtL 4 w0 A l)
    (hf : ∀ x, x ∈ l → ∀ W, Below w0.heap.size w0 W → Calls Tryd.prog F (#[(.agg (rtA x))] ++ cb) W fun e W' => e = .returned (.bool (p x)) ∧ Below W.heap.size W W')
    (w : World) (hB : Below w0.heap.size w0 w) :
    Calls Tryd.prog 99 #[.slice A m c, .func (.func F) #[] cb] w fun e w' => ∃ r : Int, e = .returned (.int .i64 r) ∧ decide (0 ≤ r) = v ∧ Below w0.heap.size w0 w' := by
  have hm63 : m ≤ 9223372036854775807 := by unfold maxLen at hm6; omega
  have HF := Lib.hid hf
  have HI := Lib.hid hI
  have HM := Lib.hid hm
  have HV1 := Lib.hid hv1
  have HV2 := Lib.hid hv2
  clear hf hI hm hv1 hv2 hm6
  go_enter Tryd.func99, Tryd.ntmps99
  go_wp2
  go_loopw [5, 8] (fun _ i wr => ∃ k : Nat, k ≤ m ∧ i = .int .i64 k ∧ Hid (∀ (i : Nat) (hi : i < l.length), i < k → p l[i] = false) ∧ Below w0.heap.size w0 wr) (fun _ i _ => m - (intOf i).toNat)
  case atStart => exact ⟨0, Nat.zero_le _, rfl, Lib.hid (fun i _ hi => absurd hi (Nat.not_lt_zero _)), hB⟩
  case round =>
    obtain ⟨k, hk, rfl, hall, hW⟩ := hrel
    obtain ⟨wo, rfl⟩ : ∃ wo, wo = wr := ⟨_, rfl⟩
    by_cases hlt : k < m
    · have hltI : (k : Int) < (m : Int) := by omega
      have hkx : k < l.length := by rw [HM.out]; exact hlt
      obtain ⟨bx, ox, rfl, hbx, hcx⟩ := HI.out.open (by omega)
      have hr := row_at hbx hcx hW hkx
      have hcl := HF.out l[k] (List.getElem_mem hkx) wo hW
      have HV3 := Lib.hid (HV2.out l[k] (List.getElem_mem hkx))
      have HY : Hid (∀ (i : Nat) (hi : i < l.length), i = k → p l[i] = p l[k]) := Lib.hid (fun i hi e => by subst e; rfl)
      clear hcx
      generalize l[k] = x at *
      obtain ⟨y, hy⟩ : ∃ y, p x = y := ⟨_, rfl⟩
      rw [hy] at hcl HV3 HY
      have HC := Lib.hid hcl
      clear hcl hy
      cases y with
      | true =>
        have HT := Lib.hid (HV3.out rfl)
        go_wp2_with (refine ldm_rt hr rfl _ rfl rfl ?_)
        refine HC.out.mono ?_
        rintro e w' ⟨rfl, hb1⟩
        have hB2 := hW.trans (hb1.mono hW.size)
        go_wp2
        go_ret
        exact ⟨_, rfl, by rw [HT.out]; simp, hB2⟩
      | false =>
        go_wp2_with (refine ldm_rt hr rfl _ rfl rfl ?_)
        refine HC.out.mono ?_
        rintro e w' ⟨rfl, hb1⟩
        have hB2 := hW.trans (hb1.mono hW.size)
        go_wp2
        go_roundw
        case rel => exact ⟨k + 1, by omega, by go_num, Lib.hid (fun i hi hik => by
          rcases Nat.lt_succ_iff_lt_or_eq.1 hik with h' | h'
          · exact hall.out i hi h'
          · exact HY.out i hi h'), hB2⟩
        case measure => simp [intOf]; omega
    · obtain rfl : k = m := by omega
      have HE := Lib.hid (HV1.out (fun x hx => by
        obtain ⟨i, hi, rfl⟩ := List.getElem_of_mem hx
        exact hall.out i hi (by rw [← HM.out]; exact hi)))
      go_wp2
      go_ret
      exact ⟨_, rfl, by rw [HE.out]; rfl, hW⟩

set_option maxRecDepth 100000 in
set_option maxHeartbeats 2000000 in
/-- every: all are valid -/
theorem every_r (V : Nat) (eg : ∀ args w, (callFunc V args).run Tryd.prog w = .ok (.enter V args) w) (A : Option Addr) (l : List Pl.Rt) (c m : Nat) (hm : l.length = m) (hm6 : m ≤ maxLen) (p : Pl.Rt → Bool) (v : Bool) (hv : l.all p = v) (w : World) (hI : Rows rtL 4 w A l)
    (hf : ∀ x, x ∈ l → ∀ W, Below w.heap.size w W → Calls Tryd.prog V #[(.agg (rtA x))] W fun e W' => e = .returned (.bool (p x)) ∧ Below W.heap.size W W') :
    Calls Tryd.prog 49 #[.slice A m c, .func (.func V) #[] #[]] w fun e w' => e = .returned (.bool v) ∧ Below w.heap.size w w' := by
  have hB := (Below.refl w.heap.size w).alloc (Nat.le_refl _) (.cells #[.func (.func V) #[] #[]] 81)
  have bX := Blk.new w 81 #[.func (.func V) #[] #[]]
  have hlt := bX.lt
  generalize hw1 : w.alloc (.cells #[.func (.func V) #[] #[]] 81) = w1 at hB bX hlt
  have ec : ∀ args w, (callFunc 88 args).run Tryd.prog w = .ok (.enter 88 args) w := enters_of Tryd.func88 (by kernel_rfl) rfl
  have HIX := Lib.hid (idx_r 88 ec #[.pointer (some ⟨w.heap.size, 0, none⟩)] A l c m hm hm6 (fun x => !p x) (!v)
    (fun h => by
      rw [← hv, Bool.not_eq_false', List.all_eq_true]
      intro x hx
      have := h x hx
      simpa using this)
    (fun x hx h => by
      rw [← hv, Bool.not_eq_true', ← Bool.not_eq_true, List.all_eq_true]
      intro h'
      rw [h' x hx] at h
      cases h)
    w1 (hI.below hB) (fun x hx W hW => by
      have h0 : W.cell? ⟨w.heap.size, 0, none⟩ = some (.func (.func V) #[] #[]) := (hW.cell (p := ⟨w.heap.size, 0, none⟩) hlt).trans (bX.cell 0)
      exact ec_r V eg x _ w.heap.size W h0 (fun W2 hW2 => hf x hx W2 ((hB.trans (hW.mono hB.size)).trans (hW2.mono (Nat.le_trans hB.size hW.size))))) w1 (Below.refl _ _))
  have HCF : Hid (Calls Tryd.prog 87 #[.slice A m c, .func (.func 88) #[] #[.pointer (some ⟨w.heap.size, 0, none⟩)]] w1 fun e w' => e = .returned (.bool (!v)) ∧ Below w1.heap.size w1 w') := by
    refine Lib.hid ?_
    clear hf hI hm hv hw1 hB bX hlt
    go_enter Tryd.func87, Tryd.ntmps87
    go_wp2_with fail
    refine HIX.out.mono ?_
    rintro e w2 ⟨r, rfl, hr, hb⟩
    have HV : Hid ((!v) = decide (0 ≤ r)) := Lib.hid hr.symm
    clear hr
    go_wp2
    go_ret
    exact ⟨by rw [HV.out]; rfl, hb⟩
  subst hw1
  clear hf hI hm hv HIX bX hlt
  go_enter Tryd.func49, Tryd.ntmps49
  go_wp2_with fail
  refine HCF.out.mono ?_
  rintro e w2 ⟨rfl, hb⟩
  have hB2 := hB.trans (hb.mono hB.size)
  go_wp2
  go_ret
  exact ⟨by cases v <;> rfl, hB2⟩


set_option maxRecDepth 100000 in
set_option maxHeartbeats 2000000 in
/-- the closure of every: not valid -/
theorem ec_p (V : Nat) (eg : ∀ args w, (callFunc V args).run Tryd.prog w = .ok (.enter V args) w) (x : Pl.Pr) (y : Bool) (bl : Nat) (w : World) (h : w.cell? ⟨bl, 0, none⟩ = some (.func (.func V) #[] #[]))
    (hc : ∀ W, Below w.heap.size w W → Calls Tryd.prog V #[(.agg (prA x))] W fun e w' => e = .returned (.bool y) ∧ Below W.heap.size W w') :
    Calls Tryd.prog 85 #[(.agg (prA x)), .pointer (some ⟨bl, 0, none⟩)] w fun e w' => e = .returned (.bool (!y)) ∧ Below w.heap.size w w' := by
  have hB := (Below.refl w.heap.size w).alloc (Nat.le_refl _) (.cells (prA x) 67)
  have bX := Blk.new w 67 (prA x)
  have hr := bX.range
  have hlt : bl < w.heap.size := by
    rcases Nat.lt_or_ge bl w.heap.size with h' | h'
    · exact h'
    · unfold World.cell? at h; rw [Array.getElem?_eq_none h'] at h; cases h
  have h2 := (hB.cell (p := ⟨bl, 0, none⟩) hlt).trans h
  have HC := Lib.hid (hc _ hB)
  clear hc bX h
  go_enter Tryd.func85, Tryd.ntmps85
  go_wp2_with (refine ldm_pr hr rfl _ rfl rfl ?_)
  refine HC.out.mono ?_
  rintro e w1 ⟨rfl, hb⟩
  have hB2 := hB.trans (hb.mono hB.size)
  go_wp2
  go_ret
  exact ⟨rfl, hB2⟩

set_option maxRecDepth 100000 in
set_option maxHeartbeats 2000000 in
theorem idx_p (F : Nat) (eg : ∀ args w, (callFunc F args).run Tryd.prog w = .ok (.enter F args) w) (cb : Array Value) (A : Option Addr) (l : List Pl.Pr) (c m : Nat) (hm : l.length = m) (hm6 : m ≤ maxLen) (p : Pl.Pr → Bool) (v : Bool) (hv1 : (∀ x, x ∈ l → p x = false) → v = false) (hv2 : ∀ x, x ∈ l → p x = true → v = true) (w0 : World) (hI : Rows prL 3 w0 A l)
    (hf : ∀ x, x ∈ l → ∀ W, Below w0.heap.size w0 W → Calls Tryd.prog F (#[(.agg (prA x))] ++ cb) W fun e W' => e = .returned (.bool (p x)) ∧ Below W.heap.size W W')
    (w : World) (hB : Below w0.heap.size w0 w) :
    Calls Tryd.prog 98 #[.slice A m c, .func (.func F) #[] cb] w fun e w' => ∃ r : Int, e = .returned (.int .i64 r) ∧ decide (0 ≤ r) = v ∧ Below w0.heap.size w0 w' := by
  have hm63 : m ≤ 9223372036854775807 := by unfold maxLen at hm6; omega
  have HF := Lib.hid hf
  have HI := Lib.hid hI
  have HM := Lib.hid hm
  have HV1 := Lib.hid hv1
  have HV2 := Lib.hid hv2
  clear hf hI hm hv1 hv2 hm6
  go_enter Tryd.func98, Tryd.ntmps98
  go_wp2
  go_loopw [5, 8] (fun _ i wr => ∃ k : Nat, k ≤ m ∧ i = .int .i64 k ∧ Hid (∀ (i : Nat) (hi : i < l.length), i < k → p l[i] = false) ∧ Below w0.heap.size w0 wr) (fun _ i _ => m - (intOf i).toNat)
  case atStart => exact ⟨0, Nat.zero_le _, rfl, Lib.hid (fun i _ hi => absurd hi (Nat.not_lt_zero _)), hB⟩
  case round =>
    obtain ⟨k, hk, rfl, hall, hW⟩ := hrel
    obtain ⟨wo, rfl⟩ : ∃ wo, wo = wr := ⟨_, rfl⟩
    by_cases hlt : k < m
    · have hltI : (k : Int) < (m : Int) := by omega
      have hkx : k < l.length := by rw [HM.out]; exact hlt
      obtain ⟨bx, ox, rfl, hbx, hcx⟩ := HI.out.open (by omega)
      have hr := row_at hbx hcx hW hkx
      have hcl := HF.out l[k] (List.getElem_mem hkx) wo hW
      have HV3 := Lib.hid (HV2.out l[k] (List.getElem_mem hkx))
      have HY : Hid (∀ (i : Nat) (hi : i < l.length), i = k → p l[i] = p l[k]) := Lib.hid (fun i hi e => by subst e; rfl)
      clear hcx
      generalize l[k] = x at *
      obtain ⟨y, hy⟩ : ∃ y, p x = y := ⟨_, rfl⟩
      rw [hy] at hcl HV3 HY
      have HC := Lib.hid hcl
      clear hcl hy
      cases y with
      | true =>
        have HT := Lib.hid (HV3.out rfl)
        go_wp2_with (refine ldm_pr hr rfl _ rfl rfl ?_)
        refine HC.out.mono ?_
        rintro e w' ⟨rfl, hb1⟩
        have hB2 := hW.trans (hb1.mono hW.size)
        go_wp2
        go_ret
        exact ⟨_, rfl, by rw [HT.out]; simp, hB2⟩
      | false =>
        go_wp2_with (refine ldm_pr hr rfl _ rfl rfl ?_)
        refine HC.out.mono ?_
        rintro e w' ⟨rfl, hb1⟩
        have hB2 := hW.trans (hb1.mono hW.size)
        go_wp2
        go_roundw
        case rel => exact ⟨k + 1, by omega, by go_num, Lib.hid (fun i hi hik => by
          rcases Nat.lt_succ_iff_lt_or_eq.1 hik with h' | h'
          · exact hall.out i hi h'
          · exact HY.out i hi h'), hB2⟩
        case measure => simp [intOf]; omega
    · obtain rfl : k = m := by omega
      have HE := Lib.hid (HV1.out (fun x hx => by
        obtain ⟨i, hi, rfl⟩ := List.getElem_of_mem hx
        exact hall.out i hi (by rw [← HM.out]; exact hi)))
      go_wp2
      go_ret
      exact ⟨_, rfl, by rw [HE.out]; rfl, hW⟩

set_option maxRecDepth 100000 in
set_option maxHeartbeats 2000000 in
/-- every: all are valid -/
theorem every_p (V : Nat) (eg : ∀ args w, (callFunc V args).run Tryd.prog w = .ok (.enter V args) w) (A : Option Addr) (l : List Pl.Pr) (c m : Nat) (hm : l.length = m) (hm6 : m ≤ maxLen) (p : Pl.Pr → Bool) (v : Bool) (hv : l.all p = v) (w : World) (hI : Rows prL 3 w A l)
    (hf : ∀ x, x ∈ l → ∀ W, Below w.heap.size w W → Calls Tryd.prog V #[(.agg (prA x))] W fun e W' => e = .returned (.bool (p x)) ∧ Below W.heap.size W W') :
    Calls Tryd.prog 42 #[.slice A m c, .func (.func V) #[] #[]] w fun e w' => e = .returned (.bool v) ∧ Below w.heap.size w w' := by
  have hB := (Below.refl w.heap.size w).alloc (Nat.le_refl _) (.cells #[.func (.func V) #[] #[]] 72)
  have bX := Blk.new w 72 #[.func (.func V) #[] #[]]
  have hlt := bX.lt
  generalize hw1 : w.alloc (.cells #[.func (.func V) #[] #[]] 72) = w1 at hB bX hlt
  have ec : ∀ args w, (callFunc 85 args).run Tryd.prog w = .ok (.enter 85 args) w := enters_of Tryd.func85 (by kernel_rfl) rfl
  have HIX := Lib.hid (idx_p 85 ec #[.pointer (some ⟨w.heap.size, 0, none⟩)] A l c m hm hm6 (fun x => !p x) (!v)
    (fun h => by
      rw [← hv, Bool.not_eq_false', List.all_eq_true]
      intro x hx
      have := h x hx
      simpa using this)
    (fun x hx h => by
      rw [← hv, Bool.not_eq_true', ← Bool.not_eq_true, List.all_eq_true]
      intro h'
      rw [h' x hx] at h
      cases h)
    w1 (hI.below hB) (fun x hx W hW => by
      have h0 : W.cell? ⟨w.heap.size, 0, none⟩ = some (.func (.func V) #[] #[]) := (hW.cell (p := ⟨w.heap.size, 0, none⟩) hlt).trans (bX.cell 0)
      exact ec_p V eg x _ w.heap.size W h0 (fun W2 hW2 => hf x hx W2 ((hB.trans (hW.mono hB.size)).trans (hW2.mono (Nat.le_trans hB.size hW.size))))) w1 (Below.refl _ _))
  have HCF : Hid (Calls Tryd.prog 84 #[.slice A m c, .func (.func 85) #[] #[.pointer (some ⟨w.heap.size, 0, none⟩)]] w1 fun e w' => e = .returned (.bool (!v)) ∧ Below w1.heap.size w1 w') := by
    refine Lib.hid ?_
    clear hf hI hm hv hw1 hB bX hlt
    go_enter Tryd.func84, Tryd.ntmps84
    go_wp2_with fail
    refine HIX.out.mono ?_
    rintro e w2 ⟨r, rfl, hr, hb⟩
    have HV : Hid ((!v) = decide (0 ≤ r)) := Lib.hid hr.symm
    clear hr
    go_wp2
    go_ret
    exact ⟨by rw [HV.out]; rfl, hb⟩
  subst hw1
  clear hf hI hm hv HIX bX hlt
  go_enter Tryd.func42, Tryd.ntmps42
  go_wp2_with fail
  refine HCF.out.mono ?_
  rintro e w2 ⟨rfl, hb⟩
  have hB2 := hB.trans (hb.mono hB.size)
  go_wp2
  go_ret
  exact ⟨by cases v <;> rfl, hB2⟩

end Go.Proofs.YtdihnbjmeppbcaaDoor
