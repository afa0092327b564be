/- sum, shares, Split, Discount, of the program; the sanity check. -/
import Derived.Test.YtbdnocijhbkclaaGreatDoorW8
namespace Go.Proofs.YtbdnocijhbkclaaGreatDoor
open Go.RowKit Go.Shelf

theorem el_at {l : List Int} {k : Nat} (h : k < l.length) : l[k] = Pl.el l k := (Pl.el_get h).symm

set_option maxRecDepth 100000 in
set_option maxHeartbeats 2000000 in
theorem sum_b (A : Option Addr) (l : List Int) (c m : Nat) (hm : l.length = m) (hm6 : m ≤ 1000) (hs : ∀ k, k ≤ m → -9000000000000000000 ≤ Pl.cu l k ∧ Pl.cu l k ≤ 9000000000000000000) (v : Int) (hv : Pl.cu l m = v) (w : World) (hI : Rows inL 1 w A l) :
    Calls Tryz.prog 25 #[.slice A m c] w fun e w' => e = .returned (.int .i64 v) ∧ w' = w := by
  have HI := Lib.hid hI
  have HM := Lib.hid hm
  have HS := Lib.hid hs
  have HV := Lib.hid hv
  clear hI hm hs hv
  go_enter Tryz.func25, Tryz.ntmps25
  go_wp2
  go_loop [3, 8] (fun s i => ∃ k : Nat, k ≤ m ∧ i = .int .i64 k ∧ s = .int .i64 (Pl.cu l k)) (fun _ i => m - (intOf i).toNat)
  case atStart => exact ⟨0, Nat.zero_le _, rfl, rfl⟩
  case round =>
    obtain ⟨k, hk, rfl, rfl⟩ := hrel
    by_cases hlt : k < m
    · have hltI : (k : Int) < (m : Int) := by omega
      have hkx : k < l.length := by rw [HM.out]; exact hlt
      obtain ⟨bx, ox, rfl, hbx, hcx⟩ := HI.out.open (by omega)
      have q0 := row_cell (mk := Value.int .i64) hbx hcx (Below.refl _ _) hkx
      rw [el_at hkx] at q0
      have e1 : Pl.cu l k + Pl.el l k = Pl.cu l (k + 1) := rfl
      have b1 := HS.out (k + 1) (by omega)
      rw [← e1] at b1
      have E1 := Lib.hid e1
      clear hcx e1
      generalize Pl.cu l k = S at *
      generalize Pl.el l k = x at *
      have kS : IntKind.i64.wrap (S + x) = S + x := IntWalk.i64_in _ (by omega)
      clear b1
      go_wp2
      go_round
      case rel => exact ⟨k + 1, by omega, by go_num, by rw [E1.out]⟩
      case measure => simp [intOf]; omega
    · obtain rfl : k = m := by omega
      rw [HV.out]
      go_wp2
      go_ret
      exact ⟨rfl, rfl⟩

/-- the row of shares -/
def ShI (c : Int) (l : List Int) (w : World) (base : Nat) (v : Value) (n : Nat) : Prop := w.ownsRow base 3 1 v n (flt inL (Pl.tab (Pl.shr c l) n))

set_option maxRecDepth 100000 in
set_option maxHeartbeats 4000000 in
theorem shares_b (x : Int) (A : Option Addr) (l : List Int) (c m : Nat) (hm : l.length = m) (hx : Pl.Sp x l) (w : World) (hI : Rows inL 1 w A l) :
    Calls Tryz.prog 26 #[.int .i64 x, .slice A m c] w fun e w' => ∃ v, e = .returned v ∧ w'.ownsRow w.heap.size 3 1 v m (flt inL (Pl.tab (Pl.shr x l) m)) ∧ Below w.heap.size w w' := by
  have hm100 : m ≤ 100 := by rw [← hm]; exact hx.len
  have hct : ∀ k, k ≤ m → 0 ≤ Pl.cu l k ∧ Pl.cu l k ≤ 1000000 := fun k hk => Pl.cu_top hx.w hx.len (by omega)
  obtain ⟨a, hal⟩ : ∃ a, Pl.al l = a := ⟨_, rfl⟩
  have hcm : Pl.cu l m = a := by rw [← hal, ← hm]; rfl
  have HC := Lib.hid (sum_b A l c m hm (by omega) (fun k hk => by have := hct k hk; omega) a hcm w hI)
  have ha1 : 1 ≤ a := by rw [← hal]; exact hx.pos
  have HT := Lib.hid hct
  have HP := Lib.hid (fun k (hk : k ≤ m) => hx.part (k := k) (by omega))
  have HQ := Lib.hid (fun k (hk : k ≤ m) => hx.prod (k := k) (by omega))
  have HSH : Hid (∀ k, Pl.shr x l k = x * Pl.cu l (k + 1) / a - x * Pl.cu l k / a) := Lib.hid (fun k => by rw [← hal]; rfl)
  rw [hal] at HP
  have HI := Lib.hid hI
  have HM := Lib.hid hm
  clear hct hcm hal hx hI hm
  obtain ⟨i0, hi, hz0, hz01, hz2⟩ := info_parts info3
  go_enter Tryz.func26, Tryz.ntmps26
  go_wp2_with fail
  refine HC.out.mono ?_
  rintro e w0 ⟨rfl, hw0⟩
  subst hw0
  go_wp2
  go_loopw [5, 7, 8, 16] (fun v t g i wr => ∃ k : Nat, k ≤ m ∧ i = .int .i64 k ∧ t = .int .i64 (Pl.cu l k) ∧ g = .int .i64 (x * Pl.cu l k / a) ∧ wr.ownsRow w0.heap.size 3 1 v k (flt inL (Pl.tab (Pl.shr x l) k)) ∧ Below w0.heap.size w0 wr) (fun _ _ _ i _ => m - (intOf i).toNat)
  case atStart => exact ⟨0, Nat.zero_le _, rfl, rfl, by simp [Pl.cu, Pl.sm], World.ownsRow_nil _ _ _ _, Below.refl _ _⟩
  case round =>
    obtain ⟨k, hk, rfl, rfl, rfl, hown, hW⟩ := hrel
    obtain ⟨wo, rfl⟩ : ∃ wo, wo = wr := ⟨_, rfl⟩
    by_cases hlt : k < m
    · have hltI : (k : Int) < (m : Int) := by omega
      have hkx : k < l.length := by rw [HM.out]; exact hlt
      obtain ⟨bx, ox, rfl, hbx, hcx⟩ := HI.out.open (by omega)
      have q0 := row_cell (mk := Value.int .i64) hbx hcx hW hkx
      rw [el_at hkx] at q0
      have e1 : Pl.cu l k + Pl.el l k = Pl.cu l (k + 1) := rfl
      have b1 := HT.out (k + 1) (by omega)
      have b2 := HP.out (k + 1) (by omega)
      have b3 := HP.out k (by omega)
      have b4 := HQ.out (k + 1) (by omega)
      have E2 := Lib.hid (HSH.out k)
      have k1 : IntKind.i64.wrap (Pl.cu l k + Pl.el l k) = Pl.cu l (k + 1) := by rw [e1]; exact IntWalk.i64_in _ (by omega)
      have k2 : IntKind.i64.wrap (x * Pl.cu l (k + 1)) = x * Pl.cu l (k + 1) := IntWalk.i64_in _ (by omega)
      have HD := Lib.hid (fun (w' : World) => down_b (x * Pl.cu l (k + 1)) a _ ha1 (Lib.hid (by omega)) rfl w')
      clear hcx e1
      obtain ⟨t, ht⟩ : ∃ t, Pl.cu l (k + 1) = t := ⟨_, rfl⟩
      rw [ht] at b1 b2 b4 E2 k1 k2 HD
      have HT1 := Lib.hid ht
      clear ht
      obtain ⟨u, hu⟩ : ∃ u, x * t / a = u := ⟨_, rfl⟩
      rw [hu] at b2 E2 HD
      have HU := Lib.hid hu
      clear hu
      generalize x * Pl.cu l k / a = g at *
      generalize Pl.cu l k = s at *
      generalize Pl.el l k = y at *
      have k3 : IntKind.i64.wrap (u - g) = u - g := IntWalk.i64_in _ (by omega)
      clear b1 b2 b3 b4
      have HOW := Lib.hid (hown.alloc (.cells (inL (u - g)).toArray 3))
      go_wp2_with fail
      refine (HD.out _).mono ?_
      rintro e w2 ⟨rfl, hw2⟩
      subst hw2
      go_wp2_with (at_builtin; refine wpList_append_own _ rfl _ _ 46 rfl w0.heap.size 3 i0 _ 1 8 Tryz.underlying46 hi hz0 hz01 hz2 rfl (by decide) _ _ _ rfl HOW.out ⟨w2.heap.size, 0, none⟩ 1 1 (inL (u - g)) rfl rfl (new_cells' _ _ _ rfl) (encIn.one _) (by unfold maxLen; omega) (by omega) (by have := hW.size; simp; omega) ?_; intro v' w9 hown' hgrow _)
      have hB9 := (hW.alloc hW.size (.cells (inL (u - g)).toArray 3)).grown hgrow (hW.alloc hW.size _).size (fun s e => (hown.lt s e).1)
      go_roundw
      case rel => exact ⟨k + 1, by omega, by go_num, by rw [HT1.out], by rw [HT1.out, HU.out], by rw [Pl.tab_succ, flt_append, flt_one, E2.out]; exact hown', hB9⟩
      case measure => simp [intOf]; omega
    · obtain rfl : k = m := by omega
      go_wp2
      go_ret
      exact ⟨_, rfl, hown, hW⟩
end Go.Proofs.YtbdnocijhbkclaaGreatDoor
