/- Credit, of the document. -/
import Derived.Test.YtdihnbjmeppbcaaDoorWR
import Derived.Test.YtdihnbjmeppbcaaDoorP9
import Derived.Laws.MakeOwn
namespace Go.Proofs.YtdihnbjmeppbcaaDoor
open Go.RowKit Go.Shelf

theorem info4b : (Tryd.prog.info? 4).map (fun i => (i.zero, i.size, i.bytes)) = some (some (.bool false), 1, 1) := by kernel_rfl
/-- block g is a row of n truth values -/
def StB (W : World) (g n : Nat) (f : Nat → Bool) : Prop := ∃ arr : Array Value, Blk W g 4 arr ∧ arr.size = n ∧ ∀ q, q < n → arr[q]? = some (.bool (f q))
section
variable {W W' : World} {g n : Nat} {f f' : Nat → Bool}
theorem StB.lt (h : StB W g n f) : g < W.heap.size := by obtain ⟨arr, h1, _⟩ := h; exact h1.lt
theorem StB.cell (h : StB W g n f) {q : Nat} (hq : q < n) : W.cell? ⟨g, q, none⟩ = some (.bool (f q)) := by
  obtain ⟨arr, h1, h2, h3⟩ := h
  rw [h1.cell q, h3 q hq]
theorem StB.frozen (h : StB W g n f) (q : Nat) : W.frozen? ⟨g, q, none⟩ = false := by obtain ⟨arr, h1, _⟩ := h; exact h1.frozen q
theorem StB.set (h : StB W g n f) (k : Nat) (v : Bool) (hv : ∀ q, q < n → f' q = if q = k then v else f q) : StB (W.setCell ⟨g, k, none⟩ (.bool v)) g n f' := by
  obtain ⟨arr, h1, h2, h3⟩ := h
  refine ⟨_, h1.set_ k _, by simpa using h2, fun q hq => ?_⟩
  rw [Array.getElem?_setIfInBounds, hv q hq]
  by_cases e : k = q
  · subst e
    rw [if_pos rfl, if_pos (by omega), if_pos rfl]
  · rw [if_neg e, h3 q hq, if_neg (fun e' => e e'.symm)]
theorem StB.new (w : World) (n : Nat) : StB (w.alloc (.cells (madeCells #[.bool false] n) 4)) w.heap.size n (fun _ => false) := by
  refine ⟨_, Blk.new w _ _, size_madeCells _ _, fun q hq => ?_⟩
  rw [Array.getElem?_eq_getElem (by rw [size_madeCells]; exact hq)]
  simp [madeCells, Nat.mod_one]
end

set_option maxRecDepth 100000 in
set_option maxHeartbeats 16000000 in
theorem rCredit_b (A : Option Addr) (a : List Int) (c m : Nat) (hm : a.length = m) (B : Option Addr) (l : List Int) (d n : Nat) (hn : l.length = n) (w : World) (hA : Rows inL 1 w A a) (hL : Rows inL 1 w B l) :
    Calls Tryd.prog 36 #[.slice A m c, .slice B n d] w fun e w' => ∃ v, e = .returned (.tuple #[v, .int .i64 (Pl.crS a l), .int .i64 (Pl.crE a l)]) ∧ CrI a l w v w' := by
  have HNO : Hid (∀ E W, Pl.crE a l = E → E ≠ 0 → Below w.heap.size w W → Pl.crS a l = 0 ∧ CrI a l w (.slice none 0 0) W) := Lib.hid (fun E W h hE hb => ⟨Pl.crS_no (by rw [h]; exact hE), by rw [Pl.crV_no (by rw [h]; exact hE)]; exact World.ownsRow_nil _ _ _ _, hb⟩)
  have hB := Below.refl w.heap.size w
  obtain ⟨S, hS⟩ : ∃ S, Pl.crS a l = S := ⟨_, rfl⟩
  obtain ⟨E, hE⟩ : ∃ E, Pl.crE a l = E := ⟨_, rfl⟩
  have HN2 : Hid (E ≠ 0 → ∀ W, Below w.heap.size w W → S = 0 ∧ CrI a l w (.slice none 0 0) W) := Lib.hid (fun h W hb => by
    rw [← hS]; exact HNO.out E W hE h hb)
  rw [hS, hE]
  by_cases b1 : (40 : Int) < (m : Int)
  · have e : E = 4 := by rw [← hE]; exact Pl.crE_big (by omega)
    subst e
    obtain ⟨s0, hc⟩ := HN2.out (by decide) w hB
    subst s0
    have HZ := Lib.hid hc
    clear hA hL HNO HN2 hS hE hm hn hc
    go_enter Tryd.func36, Tryd.ntmps36
    go_wp2
    exact bodyPost_ret (v := .tuple #[.slice none 0 0, .int .i64 0, .int .i64 4]) (by simp [results, Tryd.results36, go_sem]) rfl ⟨_, rfl, HZ.out⟩
  by_cases b2 : (40 : Int) < (n : Int)
  · have e : E = 4 := by rw [← hE]; exact Pl.crE_big (by omega)
    subst e
    obtain ⟨s0, hc⟩ := HN2.out (by decide) w hB
    subst s0
    have HZ := Lib.hid hc
    clear hA hL HNO HN2 hS hE hm hn hc
    go_enter Tryd.func36, Tryd.ntmps36
    go_wp2
    exact bodyPost_ret (v := .tuple #[.slice none 0 0, .int .i64 0, .int .i64 4]) (by simp [results, Tryd.results36, go_sem]) rfl ⟨_, rfl, HZ.out⟩
  have hm4 : m ≤ 40 := by omega
  have hn4 : n ≤ 40 := by omega
  have HL := Lib.hid hL
  have HA := Lib.hid hA
  have HM := Lib.hid hm
  have HN := Lib.hid hn
  have HEA : Hid (Pl.crA a = false → E = 2) := Lib.hid (fun h => by rw [← hE]; exact Pl.crE_A (by omega) (by omega) h)
  have HED : Hid (Pl.crD l = false → E = 2) := Lib.hid (fun h => by rw [← hE]; exact Pl.crE_D (by omega) (by omega) h)
  have HEI : Hid (∀ k, k < n → ¬ Pl.crI a l k → E = 2) := Lib.hid (fun k hk h => by rw [← hE]; exact Pl.crE_I (by omega) (by omega) (by rw [hn]; exact hk) h)
  have HEO : Hid (Pl.crA a = true → Pl.crD l = true → (∀ k, k < n → Pl.crI a l k) → E = 0) := Lib.hid (fun u1 u2 h => by rw [← hE]; exact Pl.crE_ok (by omega) (by omega) u1 u2 (by rw [hn]; exact h))
  have HSE := Lib.hid hS
  have HEE := Lib.hid hE
  obtain ⟨i0, hi, hz0, hz01, hz2⟩ := info_parts info3
  clear hA hL HNO hS hE hm hn
  go_enter Tryd.func36, Tryd.ntmps36
  go_wp2
  go_loopw [7] (fun i wr => ∃ k : Nat, k ≤ m ∧ i = .int .i64 k ∧ Hid (∀ i, i < k → Pl.am (Pl.el a i) = true) ∧ Below w.heap.size w wr) (fun i _ => m - (intOf i).toNat)
  case atStart => exact ⟨0, Nat.zero_le _, rfl, Lib.hid (fun i hi => absurd hi (Nat.not_lt_zero _)), hB⟩
  case round =>
    obtain ⟨k, hk, rfl, hall, hW⟩ := hrel
    obtain ⟨wo, rfl⟩ : ∃ wo, wo = wr := ⟨_, rfl⟩
    by_cases hlt : k < m
    · have hltI : (k : Int) < (m : Int) := by omega
      have hkx : k < a.length := by rw [HM.out]; exact hlt
      obtain ⟨ba, oa, rfl, hba, hca⟩ := HA.out.open (by omega)
      have p0 := row_cell (mk := Value.int .i64) hba hca hW hkx
      rw [el_at hkx] at p0
      have HBD : Hid (Pl.am (Pl.el a k) = false → E = 2) := Lib.hid (fun h => HEA.out (by
        rw [← Bool.not_eq_true]
        intro hh
        have := List.all_eq_true.1 hh _ (List.getElem_mem hkx)
        rw [el_at hkx, h] at this
        cases this))
      have HNX : Hid (Pl.am (Pl.el a k) = true → ∀ i, i < k + 1 → Pl.am (Pl.el a i) = true) := Lib.hid (fun h i hi => by
        rcases Nat.lt_succ_iff_lt_or_eq.1 hi with h' | rfl
        · exact hall.out i h'
        · exact h)
      clear hca hall
      generalize Pl.el a k = y at *
      obtain ⟨b, hb⟩ : ∃ b, Pl.am y = b := ⟨_, rfl⟩
      have HC := Lib.hid (fun W : World => ram_b y b hb W)
      rw [hb] at HBD HNX
      clear hb
      cases b
      · have e := HBD.out rfl
        subst e
        obtain ⟨s0, hc⟩ := HN2.out (by decide) wo hW
        subst s0
        have HZ := Lib.hid hc
        clear hc
        go_wp2_with fail
        refine (HC.out _).mono ?_
        rintro e w4 ⟨rfl, hw4⟩
        subst hw4
        go_wp2
        exact bodyPost_ret (v := .tuple #[.slice none 0 0, .int .i64 0, .int .i64 2]) (by simp [results, Tryd.results36, go_sem]) rfl ⟨_, rfl, HZ.out⟩
      · have HNN := Lib.hid (HNX.out rfl)
        go_wp2_with fail
        refine (HC.out _).mono ?_
        rintro e w4 ⟨rfl, hw4⟩
        subst hw4
        go_wp2
        go_roundw
        case rel => exact ⟨k + 1, by omega, by go_num, HNN, hW⟩
        case measure => simp [intOf]; omega
    · obtain rfl : k = m := by omega
      have hcA : Pl.crA a = true := List.all_eq_true.2 (fun x hx => by
        obtain ⟨i, hi, rfl⟩ := List.getElem_of_mem hx
        rw [el_at hi]
        exact hall.out i (by rw [← HM.out]; exact hi))
      have HEK := Lib.hid (HEO.out hcA)
      have HAM : Hid (∀ i, i < k → -1099511627776 ≤ Pl.el a i ∧ Pl.el a i ≤ 1099511627776) := Lib.hid (fun i hi => Pl.crA_get hcA (by rw [HM.out]; exact hi))
      have HSU : Hid ((∀ i, i < n → Pl.crI a l i) → ∀ i, i ≤ n → -50000000000000 ≤ Pl.sm (Pl.crv a l) i ∧ Pl.sm (Pl.crv a l) i ≤ 50000000000000) := Lib.hid (fun h i hi => Pl.crv_sum hcA (by omega) (fun j hj => h j (by omega)))
      obtain ⟨i1, hi1, hy0, hy1, hy2⟩ := info_parts info4b
      have hmk := run_make wo 108 4 i1 (.bool false) Tryd.underlying108 hi1 hy0 .i64 .i64 k k (by omega) (by omega) (by rw [hy2]; omega) (by omega)
      rw [Int.toNat_natCast, hy1, Nat.mul_one] at hmk
      have hst := StB.new wo k
      have hB3 := hW.alloc hW.size (.cells (madeCells #[.bool false] k) 4)
      have hgb := hW.size
      change Sem.run _ _ _ = Result.ok _ (wo.alloc (.cells (madeCells #[.bool false] k) 4)) at hmk
      generalize wo.alloc (.cells (madeCells #[.bool false] k) 4) = w3 at *
      generalize wo.heap.size = g at *
      clear hi1 hy0 hy1 hy2 hW hcA hall HEA HEO hlt hk hB
      go_wp2
      clear hmk
      go_loopw [9] (fun i wr => ∃ q : Nat, q ≤ n ∧ i = .int .i64 q ∧ StB wr g k (Pl.us l q) ∧ Hid (∀ i, i < q → Pl.crI a l i) ∧ Hid (∀ i j, i < j → j < q → Pl.el l i ≠ Pl.el l j) ∧ Below w.heap.size w wr) (fun i _ => n - (intOf i).toNat)
      case atStart => exact ⟨0, Nat.zero_le _, rfl, hst, Lib.hid (fun i hi => absurd hi (Nat.not_lt_zero _)), Lib.hid (fun i j _ hj => absurd hj (Nat.not_lt_zero _)), hB3⟩
      case round =>
        clear hst hB3
        obtain ⟨q, hq, rfl, hst, hall, hdif, hW⟩ := hrel
        obtain ⟨w4, rfl⟩ : ∃ w4, w4 = wr := ⟨_, rfl⟩
        by_cases hlt : q < n
        · have hltI : (q : Int) < (n : Int) := by omega
          have hqx : q < l.length := by rw [HN.out]; exact hlt
          obtain ⟨bx, ox, rfl, hbx, hcx⟩ := HL.out.open (by omega)
          have q0 := row_cell (mk := Value.int .i64) hbx hcx hW hqx
          rw [el_at hqx] at q0
          have HBAD := Lib.hid (HEI.out q hlt)
          have HDU : Hid (∀ p : Nat, Pl.el l q = (p : Int) → Pl.us l q p = true → E = 2) := Lib.hid (fun p hp h => by
            obtain ⟨i, hi, e⟩ := Pl.us_true.1 h
            exact HED.out (Pl.crD_no hi hqx (e.trans hp.symm)))
          have HNX : Hid (Pl.crI a l q → ∀ i, i < q + 1 → Pl.crI a l i) := Lib.hid (fun h i hi => by
            rcases Nat.lt_succ_iff_lt_or_eq.1 hi with h' | rfl
            · exact hall.out i h'
            · exact h)
          have HND : Hid (∀ p : Nat, Pl.el l q = (p : Int) → Pl.us l q p = false → ∀ i j, i < j → j < q + 1 → Pl.el l i ≠ Pl.el l j) := Lib.hid (fun p hp h i j hij hj => by
            rcases Nat.lt_succ_iff_lt_or_eq.1 hj with h' | rfl
            · exact hdif.out i j hij h'
            · intro e
              rw [← Bool.not_eq_true] at h
              exact h (Pl.us_true.2 ⟨i, hij, e.trans hp⟩))
          have HUS : Hid (∀ p : Nat, Pl.el l q = (p : Int) → ∀ x, x < k → Pl.us l (q + 1) x = if x = p then true else Pl.us l q x) := Lib.hid (fun p hp x _ => by
            rw [Pl.us_succ, hp]
            by_cases e : x = p
            · subst e; simp
            · rw [if_neg e, show ((p : Int) == (x : Int)) = false by simp; omega, Bool.or_false])
          have HCI : Hid (Pl.crI a l q ↔ 0 ≤ Pl.el l q ∧ Pl.el l q < (k : Int)) := Lib.hid (by unfold Pl.crI; rw [HM.out])
          clear hcx hall hdif
          generalize Pl.el l q = z at *
          by_cases z0 : z < 0
          · have e := HBAD.out (fun h => by have := HCI.out.1 h; omega)
            subst e
            obtain ⟨s0, hc⟩ := HN2.out (by decide) w4 hW
            subst s0
            have HZ := Lib.hid hc
            have d0 : decide (z < 0) = true := decide_eq_true z0
            clear hc
            go_wp2
            exact bodyPost_ret (v := .tuple #[.slice none 0 0, .int .i64 0, .int .i64 2]) (by simp [results, Tryd.results36, go_sem]) rfl ⟨_, rfl, HZ.out⟩
          have d0 : decide (z < 0) = false := decide_eq_false z0
          by_cases z1 : (k : Int) ≤ z
          · have e := HBAD.out (fun h => by have := HCI.out.1 h; omega)
            subst e
            obtain ⟨s0, hc⟩ := HN2.out (by decide) w4 hW
            subst s0
            have HZ := Lib.hid hc
            have d1 : decide (z ≥ (k : Int)) = true := decide_eq_true z1
            clear hc
            go_wp2
            exact bodyPost_ret (v := .tuple #[.slice none 0 0, .int .i64 0, .int .i64 2]) (by simp [results, Tryd.results36, go_sem]) rfl ⟨_, rfl, HZ.out⟩
          have d1 : decide (z ≥ (k : Int)) = false := decide_eq_false z1
          obtain ⟨p, rfl⟩ : ∃ p : Nat, z = (p : Int) := ⟨z.toNat, by omega⟩
          have hp : p < k := by omega
          have hpI : (p : Int) < (k : Int) := by omega
          have cp := hst.cell hp
          have fp := hst.frozen p
          have hgl := hst.lt
          have HN3 := Lib.hid (HNX.out (HCI.out.2 (by omega)))
          obtain ⟨ub, hub⟩ : ∃ b, Pl.us l q p = b := ⟨_, rfl⟩
          have HDU2 := Lib.hid (HDU.out p rfl)
          have HND2 := Lib.hid (HND.out p rfl)
          have HUS2 := Lib.hid (HUS.out p rfl)
          rw [hub] at cp HDU2 HND2
          clear hub HDU HND HUS HNX HBAD HCI
          cases ub
          · have HD3 := Lib.hid (HND2.out rfl)
            have hst2 := hst.set (f' := Pl.us l (q + 1)) p true (fun x hx => HUS2.out x hx)
            have hO : Below w.heap.size w (w4.setCell ⟨g, p, none⟩ (.bool true)) := hW.trans ((Only.setCell g w4 p _).below hgb)
            clear hst hW HUS2 HND2 HDU2
            go_wp2
            go_roundw
            case rel => exact ⟨q + 1, by omega, by go_num, hst2, HN3, HD3, hO⟩
            case measure => simp [intOf]; omega
          · have e := HDU2.out rfl
            subst e
            obtain ⟨s0, hc⟩ := HN2.out (by decide) w4 hW
            subst s0
            have HZ := Lib.hid hc
            clear hc
            go_wp2
            exact bodyPost_ret (v := .tuple #[.slice none 0 0, .int .i64 0, .int .i64 2]) (by simp [results, Tryd.results36, go_sem]) rfl ⟨_, rfl, HZ.out⟩
        · obtain rfl : q = n := by omega
          have hcD : Pl.crD l = true := Pl.crD_iff.2 (fun i j hij hj => hdif.out i j hij (by rw [← HN.out]; exact hj))
          have e1 : E = 0 := HEK.out hcD hall.out
          subst e1
          have e2 : S = Pl.sm (Pl.crv a l) l.length := HSE.out.symm.trans (Pl.crS_yes HEE.out)
          rw [HN.out] at e2
          have HS2 := Lib.hid e2
          have HCV : Hid (Pl.crV a l = Pl.tab (Pl.crv a l) q) := Lib.hid (by rw [Pl.crV_yes HEE.out, HN.out])
          have HSM := Lib.hid (HSU.out hall.out)
          have HIX : Hid (∀ i, i < q → 0 ≤ Pl.el l i ∧ Pl.el l i < (k : Int)) := Lib.hid (fun i hi => by
            have := hall.out i hi
            unfold Pl.crI at this
            rw [HM.out] at this
            exact this)
          have HW4 := Lib.hid hW
          clear hst hall hdif hW e2 hcD HSU HEK HEI HED HN2
          go_wp2
          go_loopw [10, 11, 12] (fun v t i wr => ∃ x : Nat, x ≤ q ∧ i = .int .i64 x ∧ t = .int .i64 (Pl.sm (Pl.crv a l) x) ∧ wr.ownsRow w4.heap.size 3 1 v x (flt inL (Pl.tab (Pl.crv a l) x)) ∧ Below w4.heap.size w4 wr) (fun _ _ i _ => q - (intOf i).toNat)
          case atStart => exact ⟨0, Nat.zero_le _, rfl, rfl, World.ownsRow_nil _ _ _ _, Below.refl _ _⟩
          case round =>
            obtain ⟨x, hx, rfl, rfl, hown, hW⟩ := hrel
            obtain ⟨w5, rfl⟩ : ∃ w5, w5 = wr := ⟨_, rfl⟩
            have hBo := HW4.out.trans (hW.mono HW4.out.size)
            by_cases hlx : x < q
            · have hlxI : (x : Int) < (q : Int) := by omega
              have hxx : x < l.length := by rw [HN.out]; exact hlx
              obtain ⟨bx, ox, rfl, hbx, hcx⟩ := HL.out.open (by omega)
              obtain ⟨z0, z1⟩ := HIX.out x hlx
              have e1 : Pl.sm (Pl.crv a l) (x + 1) = Pl.sm (Pl.crv a l) x + -(Pl.el a (Pl.el l x).toNat) := rfl
              have HU0 : Hid (Pl.crv a l x = -(Pl.el a (Pl.el l x).toNat)) := Lib.hid rfl
              have b1 := HSM.out (x + 1) (by omega)
              obtain ⟨p, hp⟩ : ∃ p : Nat, Pl.el l x = (p : Int) := ⟨(Pl.el l x).toNat, by omega⟩
              rw [hp, Int.toNat_natCast] at e1
              have HU : Hid (Pl.crv a l x = -(Pl.el a p)) := Lib.hid (by rw [HU0.out, hp, Int.toNat_natCast])
              have hpk : p < k := by omega
              have hpI : (p : Int) < (k : Int) := by omega
              have hpa : p < a.length := by rw [HM.out]; exact hpk
              obtain ⟨ba, oa, rfl, hba, hca⟩ := HA.out.open (by omega)
              have hr := HAM.out p hpk
              have HCE : Hid (∀ W, Below w4.heap.size w4 W → W.cell? ⟨bx, ox + x, none⟩ = some (.int .i64 (p : Int)) ∧ W.cell? ⟨ba, oa + p, none⟩ = some (.int .i64 (Pl.el a p))) := Lib.hid (fun W hb => by
                have hb' := HW4.out.trans (hb.mono HW4.out.size)
                have q0 := row_cell (mk := Value.int .i64) hbx hcx hb' hxx
                have p0 := row_cell (mk := Value.int .i64) hba hca hb' hpa
                rw [el_at hxx, hp] at q0
                rw [el_at hpa] at p0
                exact ⟨q0, p0⟩)
              clear hca hcx z0 z1 HU0 hp
              generalize Pl.el a p = y at *
              obtain ⟨t1, ht1⟩ : ∃ t, Pl.sm (Pl.crv a l) (x + 1) = t := ⟨_, rfl⟩
              rw [ht1] at e1 b1
              have HT := Lib.hid ht1
              generalize Pl.sm (Pl.crv a l) x = t0 at *
              have k1 : IntKind.i64.wrap (t0 - y) = t1 := by rw [show t0 - y = t1 by omega]; exact IntWalk.i64_in _ (by omega)
              have kn : IntKind.i64.wrap (-y) = -y := IntWalk.i64_in _ (by omega)
              obtain ⟨q0, p0⟩ := HCE.out w5 hW
              have HOW := Lib.hid (hown.alloc (.cells (inL (-y)).toArray 3))
              clear b1 e1 ht1
              go_wp2_with (at_builtin; refine wpList_append_own _ rfl _ _ 46 rfl w4.heap.size 3 i0 _ 1 8 Tryd.underlying46 hi hz0 hz01 hz2 rfl (by decide) _ _ _ rfl HOW.out ⟨w5.heap.size, 0, none⟩ 1 1 (inL (-y)) rfl rfl (new_cells' _ _ _ rfl) (encIn.one _) (by unfold maxLen; omega) (by omega) (by have := hW.size; simp; omega) ?_; intro v' w9 hown' hgrow _; have hB9 := (hW.alloc hW.size (.cells (inL (-y)).toArray 3)).grown hgrow (hW.alloc hW.size _).size (fun s e => (hown.lt s e).1); have q9 := (HCE.out w9 hB9).1; have p9 := (HCE.out w9 hB9).2)
              go_roundw
              case rel => exact ⟨x + 1, by omega, by go_num, by rw [HT.out], by rw [Pl.tab_succ, flt_append, flt_one, HU.out]; exact hown', hB9⟩
              case measure => simp [intOf]; omega
            · obtain rfl : x = q := by omega
              have HZ1 : Hid (CrI a l w u10 w5) := Lib.hid ⟨by rw [HCV.out, Pl.tab_len]; exact own_mono hown HW4.out.size, hBo⟩
              rw [← HS2.out]
              clear hown hW hBo HCV HSM HIX HSE HEE HAM HS2 HW4
              go_wp2
              exact bodyPost_ret (v := .tuple #[u10, .int .i64 S, .int .i64 0]) (by simp [results, Tryd.results36, go_sem]) rfl ⟨_, rfl, HZ1.out⟩
end Go.Proofs.YtdihnbjmeppbcaaDoor
