/- centsFor, stepsOf, Price, cheapest, Cheapest, of the program. -/
import Derived.Test.YtdihnbjmeppbcaaDoorWG
import Derived.Test.YtdihnbjmeppbcaaDoorP5
namespace Go.Proofs.YtdihnbjmeppbcaaDoor
open Go.RowKit Go.Shelf

/-- a price whose steps lie in memory -/
structure PrM (W : World) (x : Pl.Pr) : Prop where
  rows : Rows stL 2 W x.a x.st
  len : x.st.length ≤ maxLen
theorem PrM.below {W W' : World} {x : Pl.Pr} (h : PrM W x) (hb : Below W.heap.size W W') : PrM W' x := ⟨h.rows.below hb, h.len⟩
theorem prM_of {w : World} {A : Option Addr} {l : List Pl.Pr} {c : Nat} (hI : PrsIn w A l c) {x : Pl.Pr} (h : x = default ∨ x ∈ l) : PrM w x := by
  rcases h with rfl | h
  · exact ⟨.inl rfl, Nat.zero_le _⟩
  · exact ⟨(hI.each _ h).1, Nat.le_trans (hI.each _ h).2.1 (hI.each _ h).2.2.1⟩

set_option maxRecDepth 100000 in
set_option maxHeartbeats 4000000 in
theorem cents_b (A : Option Addr) (l : List Pl.Stp) (c m : Nat) (hm : l.length = m) (hm6 : m ≤ maxLen) (n : Int) (v : Int) (hv : Pl.cen l n m = v) (w : World) (hI : Rows stL 2 w A l) :
    Calls Tryd.prog 61 #[.slice A m c, .int .i64 n] w fun e w' => e = .returned (.int .i64 v) ∧ Below w.heap.size w w' := by
  have hm63 := max63 hm6
  have HI := Lib.hid hI
  have HM := Lib.hid hm
  have HV := Lib.hid hv
  have hB0 := Below.refl w.heap.size w
  clear hI hm hm6 hv
  go_enter Tryd.func61, Tryd.ntmps61
  go_wp2
  go_loopw [5, 10] (fun t i wr => ∃ k : Nat, k ≤ m ∧ i = .int .i64 k ∧ t = .int .i64 (Pl.cen l n k) ∧ Below w.heap.size w wr) (fun _ i _ => m - (intOf i).toNat)
  case atStart => exact ⟨0, Nat.zero_le _, rfl, rfl, hB0⟩
  case round =>
    obtain ⟨k, hk, rfl, rfl, hW⟩ := hrel
    obtain ⟨wo, rfl⟩ : ∃ wo, wo = wr := ⟨_, rfl⟩
    by_cases hlt : k < m
    · have hltI : (k : Int) < (m : Int) := by omega
      have hkx : k < l.length := by rw [HM.out]; exact hlt
      obtain ⟨bx, ox, rfl, hbx, hcx⟩ := HI.out.open (by omega)
      have hr := row_at hbx hcx hW hkx
      have HST := Lib.hid (Pl.cen_step (n := n) hkx)
      clear hcx
      generalize l[k] = x at *
      generalize Pl.cen l n k = t at *
      have bE := Blk.new wo 95 (stA x)
      have hBE := hW.alloc hW.size (.cells (stA x) 95)
      have e0 := bE.cell 0
      have e1 := bE.cell 1
      clear hW bE
      by_cases hc : x.c ≤ n
      · have HN : Hid (Pl.cen l n (k + 1) = x.m) := Lib.hid (by rw [HST.out, if_pos hc])
        go_wp2_with (refine ldm_st hr rfl _ rfl rfl ?_)
        go_roundw
        case rel => exact ⟨k + 1, by omega, by go_num, by rw [HN.out], hBE⟩
        case measure => simp [intOf]; omega
      · have HN : Hid (Pl.cen l n (k + 1) = t) := Lib.hid (by rw [HST.out, if_neg hc])
        go_wp2_with (refine ldm_st hr rfl _ rfl rfl ?_)
        go_roundw
        case rel => exact ⟨k + 1, by omega, by go_num, by rw [HN.out], hBE⟩
        case measure => simp [intOf]; omega
    · obtain rfl : k = m := by omega
      rw [HV.out]
      go_wp2
      go_ret
      exact ⟨rfl, hW⟩

set_option maxRecDepth 100000 in
set_option maxHeartbeats 4000000 in
theorem stepsOf_b (A : Option Addr) (l : List Pl.Pr) (c m : Nat) (hm : l.length = m) (hm6 : m ≤ 60) (hd : ∀ x, x ∈ l → 0 ≤ x.d ∧ x.d ≤ 100000) (n : ByteArray) (d : Int) (w : World) (hI : Rows prL 3 w A l) :
    Calls Tryd.prog 92 #[.slice A m c, .string n, .int .i64 d] w fun e w' => e = .returned (.tuple #[.slice (Pl.fnd l (Pl.lt (l.map Pl.pk) n d m)).a (Pl.fnd l (Pl.lt (l.map Pl.pk) n d m)).st.length (Pl.fnd l (Pl.lt (l.map Pl.pk) n d m)).k, .int .i64 (Pl.soE (Pl.lt (l.map Pl.pk) n d m))]) ∧ Below w.heap.size w w' := by
  have HL := Lib.hid (latest_p A l c m hm (by omega) hd n d w hI)
  obtain ⟨r, hr⟩ : ∃ r, Pl.lt (l.map Pl.pk) n d m = r := ⟨_, rfl⟩
  rw [hr] at HL ⊢
  clear hI hm hm6 hd hr
  cases r with
  | none =>
    have e0 : Pl.fnd l none = default := rfl
    rw [e0] at HL ⊢
    have e1 : Pl.soE none = 82 := rfl
    have e2 : (none : Option Nat).isSome = false := rfl
    rw [e1]
    rw [e2] at HL
    go_enter Tryd.func92, Tryd.ntmps92
    go_wp2_with fail
    refine HL.out.mono ?_
    rintro e w1 ⟨rfl, hb⟩
    have hB2 := hb.alloc hb.size (.cells (prA default) 67)
    go_wp2
    go_ret2
    exact ⟨rfl, hB2⟩
  | some j =>
    have e1 : Pl.soE (some j) = 0 := rfl
    have e2 : (some j).isSome = true := rfl
    rw [e1]
    rw [e2] at HL
    generalize Pl.fnd l (some j) = F at *
    go_enter Tryd.func92, Tryd.ntmps92
    go_wp2_with fail
    refine HL.out.mono ?_
    rintro e w1 ⟨rfl, hb⟩
    have hB2 := hb.alloc hb.size (.cells (prA F) 67)
    have bX := Blk.new w1 67 (prA F)
    have q2 := bX.cell 2
    clear bX hb HL
    go_wp2
    go_ret2
    exact ⟨rfl, hB2⟩

set_option maxRecDepth 100000 in
set_option maxHeartbeats 4000000 in
theorem checkedSteps_b (A : Option Addr) (l : List Pl.Pr) (c m : Nat) (hm : l.length = m) (n : ByteArray) (d q : Int) (w : World) (hI : PrsIn w A l c) :
    Calls Tryd.prog 60 #[.slice A m c, .string n, .int .i64 d, .int .i64 q] w fun e w' => e = .returned (.tuple #[.slice (Pl.prF l n d q).a (Pl.prF l n d q).st.length (Pl.prF l n d q).k, .int .i64 (Pl.prG l n d q)]) ∧ Below w.heap.size w w' := by
  obtain ⟨x0, h0⟩ : ∃ x, Pl.vps l = x := ⟨_, rfl⟩
  obtain ⟨x1, h1⟩ : ∃ x, Pl.dy d = x := ⟨_, rfl⟩
  obtain ⟨x2, h2⟩ : ∃ x, Pl.inB 1 q 100000 = x := ⟨_, rfl⟩
  have H0 := Lib.hid (vprices_b A l c m hm x0 h0 w hI)
  have H1 := Lib.hid (fun w' : World => dy_b d x1 h1 w')
  have H2 := Lib.hid (fun w' : World => within_b q 1 100000 x2 h2 w')
  obtain ⟨F, hF⟩ : ∃ F, Pl.prF l n d q = F := ⟨_, rfl⟩
  obtain ⟨E, hE⟩ : ∃ E, Pl.prG l n d q = E := ⟨_, rfl⟩
  rw [hF, hE]
  unfold Pl.prF at hF
  unfold Pl.prG at hE
  rw [h0, h1, h2, hm] at hF hE
  cases x0
  · have e1 : default = F := hF
    have e2 : 80 = E := hE
    subst e1 e2
    clear h0 h1 h2 hI hm hF hE
    go_enter Tryd.func60, Tryd.ntmps60
    go_wp2_with fail
    refine H0.out.mono ?_
    rintro e w1 ⟨rfl, hb⟩
    go_wp2
    go_ret2
    exact ⟨rfl, hb⟩
  cases x1
  · have e1 : default = F := hF
    have e2 : 2 = E := hE
    subst e1 e2
    clear h0 h1 h2 hI hm hF hE
    go_enter Tryd.func60, Tryd.ntmps60
    go_wp2_with fail
    refine H0.out.mono ?_
    rintro e w1 ⟨rfl, hb⟩
    go_wp2_with fail
    refine (H1.out _).mono ?_
    rintro e w2 ⟨rfl, hw2⟩
    subst hw2
    go_wp2
    go_ret2
    exact ⟨rfl, hb⟩
  cases x2
  · have e1 : default = F := hF
    have e2 : 2 = E := hE
    subst e1 e2
    clear h0 h1 h2 hI hm hF hE
    go_enter Tryd.func60, Tryd.ntmps60
    go_wp2_with fail
    refine H0.out.mono ?_
    rintro e w1 ⟨rfl, hb⟩
    go_wp2_with fail
    refine (H1.out _).mono ?_
    rintro e w2 ⟨rfl, hw2⟩
    subst hw2
    go_wp2_with fail
    refine (H2.out _).mono ?_
    rintro e w2 ⟨rfl, hw2⟩
    subst hw2
    go_wp2
    go_ret2
    exact ⟨rfl, hb⟩
  have h0' := h0
  rw [Pl.vps_eq, Pl.vls_true] at h0'
  have HS := Lib.hid (fun w' (hb : Below w.heap.size w w') => stepsOf_b A l c m hm (by omega) (fun x hx => by
    obtain ⟨i, hi, rfl⟩ := List.getElem_of_mem hx
    have := Pl.vp_true.1 (h0'.2.1 i hi)
    exact ⟨this.d0, this.d1⟩) n d w' (hI.rows.below hb))
  have e1 : Pl.fnd l (Pl.lt (l.map Pl.pk) n d m) = F := hF
  have e2 : Pl.soE (Pl.lt (l.map Pl.pk) n d m) = E := hE
  rw [e1, e2] at HS
  clear h0 h0' h1 h2 hI hm hF hE e1 e2
  go_enter Tryd.func60, Tryd.ntmps60
  go_wp2_with fail
  refine H0.out.mono ?_
  rintro e w1 ⟨rfl, hb⟩
  go_wp2_with fail
  refine (H1.out _).mono ?_
  rintro e w2 ⟨rfl, hw2⟩
  subst hw2
  go_wp2_with fail
  refine (H2.out _).mono ?_
  rintro e w2 ⟨rfl, hw2⟩
  subst hw2
  go_wp2_with fail
  refine (HS.out _ hb).mono ?_
  rintro e w3 ⟨rfl, hb3⟩
  have hB3 := hb.trans (hb3.mono hb.size)
  go_wp2
  go_ret2
  exact ⟨rfl, hB3⟩

set_option maxRecDepth 100000 in
set_option maxHeartbeats 4000000 in
theorem Price_b (A : Option Addr) (l : List Pl.Pr) (c m : Nat) (hm : l.length = m) (n : ByteArray) (d q : Int) (w : World) (hI : PrsIn w A l c) :
    Calls Tryd.prog 21 #[.slice A m c, .string n, .int .i64 d, .int .i64 q] w fun e w' => e = .returned (.tuple #[.int .i64 (Pl.prU l n d q), .int .i64 (Pl.prG l n d q)]) ∧ Below w.heap.size w w' := by
  have H0 := Lib.hid (checkedSteps_b A l c m hm n d q w hI)
  have hM := prM_of hI (Pl.prF_mem l n d q)
  have HU : Hid (Pl.cen (Pl.prF l n d q).st q (Pl.prF l n d q).st.length = Pl.prU l n d q) := Lib.hid rfl
  have HN : Hid (Pl.prG l n d q ≠ 0 → Pl.prU l n d q = 0) := Lib.hid Pl.prU_no
  have H1 := Lib.hid (fun w' (hb : Below w.heap.size w w') => cents_b _ _ (Pl.prF l n d q).k _ rfl hM.len q _ HU.out w' (hM.rows.below hb))
  generalize Pl.prU l n d q = U at *
  generalize Pl.prG l n d q = E at *
  generalize Pl.prF l n d q = F at *
  clear hI hm hM HU
  by_cases hE : E = 0
  · subst hE
    go_enter Tryd.func21, Tryd.ntmps21
    go_wp2_with fail
    refine H0.out.mono ?_
    rintro e w1 ⟨rfl, hb⟩
    go_wp2_with fail
    refine (H1.out _ hb).mono ?_
    rintro e w2 ⟨rfl, hb2⟩
    have hB2 := hb.trans (hb2.mono hb.size)
    go_wp2
    go_ret2
    exact ⟨rfl, hB2⟩
  · have HZ := Lib.hid (HN.out hE)
    rw [HZ.out]
    go_enter Tryd.func21, Tryd.ntmps21
    go_wp2_with fail
    refine H0.out.mono ?_
    rintro e w1 ⟨rfl, hb⟩
    go_wp2
    go_ret2
    exact ⟨rfl, hb⟩
end Go.Proofs.YtdihnbjmeppbcaaDoor
