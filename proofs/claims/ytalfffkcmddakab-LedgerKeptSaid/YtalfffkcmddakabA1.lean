/- Read of the program; alike; long. -/
import Derived.Test.YtalfffkcmddakabR2
import Derived.Test.YtalfffkcmddakabF3
import Derived.Test.YtalfffkcmddakabZ8
namespace Go.Proofs.Ytalfffkcmddakab
open Go.RowKit Go.Shelf

set_option maxRecDepth 100000 in
set_option maxHeartbeats 2000000 in
theorem dread0 {w : World} {b : Nat} {D : Pl.Dk} {v0 v1 : Value} {kp : Int} (h : IsDk w b D v0 v1 kp) (hu : D.up = true) (hl : D.s0.length ≤ 100000) : Calls Try.prog 31 #[ptr b, .int .i64 0] w fun e w' => ∃ A c, e = .returned (.tuple #[.slice A D.s0.length c, .int .i64 0]) ∧ Rows u8L 1 w' A D.s0 ∧ Below w.heap.size w w' := by
  have HK := Lib.hid (check_b h 0 0 (by unfold Pl.rdE; rw [hu]; simp))
  obtain ⟨A, c, rfl, hR, hnc, hcm⟩ := h.o0.rows
  have qv : w.cell? ⟨b, 2 + 0, none⟩ = some (.slice A D.s0.length c) := h.blk.cell (2 + 0)
  have HC := Lib.hid (copied_any A D.s0 c _ rfl hl w hR)
  clear h hu hR hnc hcm
  generalize D.s0 = l at *
  generalize hn : l.length = n at *
  have HN2 := Lib.hid hn
  clear hn
  go_enter Try.func31, Try.ntmps31
  go_wp2_with fail
  refine HK.out.mono ?_
  rintro e w1 ⟨rfl, rfl⟩
  go_wp2_with fail
  refine HC.out.mono ?_
  rintro e w2 ⟨u, rfl, hO2, hb2⟩
  obtain ⟨A2, c2, rfl, hR2, _, _⟩ := rows_of_owns encU8 (show World.ownsRow _ _ _ _ _ (List.length l) _ by rw [HN2.out]; exact hO2)
  have HR2 := Lib.hid hR2
  clear hO2 hR2
  go_wp2
  go_ret2
  exact ⟨A2, c2, by rw [HN2.out]; rfl, HR2.out, hb2⟩
set_option maxRecDepth 100000 in
set_option maxHeartbeats 2000000 in
theorem dread1 {w : World} {b : Nat} {D : Pl.Dk} {v0 v1 : Value} {kp : Int} (h : IsDk w b D v0 v1 kp) (hu : D.up = true) (hl : D.s1.length ≤ 100000) : Calls Try.prog 31 #[ptr b, .int .i64 1] w fun e w' => ∃ A c, e = .returned (.tuple #[.slice A D.s1.length c, .int .i64 0]) ∧ Rows u8L 1 w' A D.s1 ∧ Below w.heap.size w w' := by
  have HK := Lib.hid (check_b h 1 0 (by unfold Pl.rdE; rw [hu]; simp))
  obtain ⟨A, c, rfl, hR, hnc, hcm⟩ := h.o1.rows
  have qv : w.cell? ⟨b, 2 + 1, none⟩ = some (.slice A D.s1.length c) := h.blk.cell (2 + 1)
  have HC := Lib.hid (copied_any A D.s1 c _ rfl hl w hR)
  clear h hu hR hnc hcm
  generalize D.s1 = l at *
  generalize hn : l.length = n at *
  have HN2 := Lib.hid hn
  clear hn
  go_enter Try.func31, Try.ntmps31
  go_wp2_with fail
  refine HK.out.mono ?_
  rintro e w1 ⟨rfl, rfl⟩
  go_wp2_with fail
  refine HC.out.mono ?_
  rintro e w2 ⟨u, rfl, hO2, hb2⟩
  obtain ⟨A2, c2, rfl, hR2, _, _⟩ := rows_of_owns encU8 (show World.ownsRow _ _ _ _ _ (List.length l) _ by rw [HN2.out]; exact hO2)
  have HR2 := Lib.hid hR2
  clear hO2 hR2
  go_wp2
  go_ret2
  exact ⟨A2, c2, by rw [HN2.out]; rfl, HR2.out, hb2⟩
set_option maxRecDepth 100000 in
set_option maxHeartbeats 2000000 in
theorem dread_no {w : World} {b : Nat} {D : Pl.Dk} {v0 v1 : Value} {kp : Int} (h : IsDk w b D v0 v1 kp) (i : Int) (hr : Pl.rdE D i ≠ 0) : Calls Try.prog 31 #[ptr b, .int .i64 i] w fun e w' => e = .returned (.tuple #[.slice none 0 0, .int .i64 (Pl.rdE D i)]) ∧ w' = w := by
  have HK := Lib.hid (check_b h i _ rfl)
  have hne : (Pl.rdE D i != 0) = true := by simpa using hr
  clear h hr
  generalize Pl.rdE D i = v at *
  go_enter Try.func31, Try.ntmps31
  go_wp2_with fail
  refine HK.out.mono ?_
  rintro e w1 ⟨rfl, rfl⟩
  go_wp2
  go_ret2
  exact ⟨rfl, rfl⟩
theorem dread_any {w : World} {b : Nat} {D : Pl.Dk} (h : Dsk w b D) (i : Int) (hl : D.s0.length ≤ 100000 ∧ D.s1.length ≤ 100000) :
    Calls Try.prog 31 #[ptr b, .int .i64 i] w fun e w' => ∃ A n c, e = .returned (.tuple #[.slice A n c, .int .i64 (Pl.rdE D i)]) ∧ (Pl.rdV D i).length = n ∧ Rows u8L 1 w' A (Pl.rdV D i) ∧ Below w.heap.size w w' := by
  obtain ⟨v0, v1, kp, h⟩ := h
  by_cases hr : Pl.rdE D i = 0
  · obtain ⟨hu, hi⟩ := rd_ok hr
    have e1 : Pl.rdV D i = D.sl i.toNat := by unfold Pl.rdV; rw [if_pos hr]
    rw [hr, e1]
    rcases hi with rfl | rfl
    · exact (dread0 h hu hl.1).mono fun e w' ⟨A, c, he, hR, hb⟩ => ⟨A, _, c, he, rfl, hR, hb⟩
    · exact (dread1 h hu hl.2).mono fun e w' ⟨A, c, he, hR, hb⟩ => ⟨A, _, c, he, rfl, hR, hb⟩
  · have e1 : Pl.rdV D i = [] := by unfold Pl.rdV; rw [if_neg hr]
    rw [e1]
    exact (dread_no h i hr).mono fun e w' ⟨he, hw⟩ => ⟨none, 0, 0, he, rfl, .inl rfl, by rw [hw]; exact Below.refl _ _⟩
/-- both slots are short -/
def Sz (D : Pl.Dk) : Prop := D.s0.length ≤ 100000 ∧ D.s1.length ≤ 100000

set_option maxRecDepth 100000 in
set_option maxHeartbeats 4000000 in
theorem alike_any {w : World} {b r : Nat} {D : Pl.Dk} (h : Dsk w b D) (k : Rsk w r D) (hz : Sz D) :
    Calls Try.prog 14 #[ptr b, ptr r] w fun e w' => e = .returned (.bool true) ∧ Below w.heap.size w w' := by
  obtain ⟨x, hx⟩ : ∃ x, (!D.up) = x := ⟨_, rfl⟩
  have K := Lib.hid (fun s : Ext w => (show Calls Try.prog 41 #[ptr b] s.w (fun e w' => e = .returned (.bool x) ∧ Below s.w.heap.size s.w w') from by
    obtain ⟨v0, v1, kp, h⟩ := h.below s.h
    exact same_below (down_any h x hx)))
  have q2 : ∀ s : Ext w, s.w.cell? ⟨r, 2, none⟩ = some (.bool x) := fun s => s.cell (by
    obtain ⟨v0, v1, kp, k⟩ := k
    rw [k.blk.cell 2, ← hx]; rfl)
  have HH := Lib.hid h
  have HK := Lib.hid k
  have HZ := Lib.hid hz
  have hxx : (x == x) = true := by simp
  have hxn : (x != x) = false := by simp
  clear h k hz hx
  go_enter Try.func14, Try.ntmps14
  go_wp2
  refine wp_region_ext (by kernel_rfl) (by kernel_rfl) ?_
  repeat (go_big_quiet_step ((go_at_call 41; refine calls_ext (K.out _))))
  refine wpQuiet_nil ?_
  rintro _ ⟨s, rfl⟩
  have hB := s.h
  have HH1 := Lib.hid (HH.out.below hB)
  have HK1 := Lib.hid (HK.out.below hB)
  clear q2 K HH HK hxx
  generalize s.w = w1 at *
  cases x
  all_goals
    go_wp2
    go_loopw [21] (fun i wr => ∃ q : Nat, q ≤ 2 ∧ i = .int .i64 q ∧ Hid (Dsk wr b D) ∧ Hid (Rsk wr r D) ∧ Below w.heap.size w wr) (fun i _ => 2 - (intOf i).toNat)
    case atStart => exact ⟨0, by omega, rfl, HH1, HK1, hB⟩
    case round =>
      clear HH1 HK1 hB
      obtain ⟨q, hq, rfl, HD, HR, hB⟩ := hrel
      obtain ⟨wo, rfl⟩ : ∃ wo, wo = wr := ⟨_, rfl⟩
      by_cases hlt : q < 2
      · have hltI : (q : Int) < 2 := by omega
        have H1 := Lib.hid (dread_any HD.out (q : Int) HZ.out)
        obtain ⟨er, her⟩ : ∃ er, Pl.rdE D (q : Int) = er := ⟨_, rfl⟩
        rw [her] at H1
        have HER := Lib.hid her
        have hee : (er != er) = false := by simp
        clear her
        go_wp2_with fail
        refine H1.out.mono ?_
        rintro e w2 ⟨A2, n2, c2, rfl, hn2, hR2, hb2⟩
        have HR2 := Lib.hid (HR.out.below hb2)
        have HD2 := Lib.hid (HD.out.below hb2)
        have hB2 := hB.trans (hb2.mono hB.size)
        have H2 : Hid (Calls Try.prog 38 #[ptr r, .int .i64 (q : Int)] w2 fun e w' => ∃ A n c, e = .returned (.tuple #[.slice A n c, .int .i64 (Pl.rdE D (q : Int))]) ∧ (Pl.rdV D (q : Int)).length = n ∧ Rows u8L 1 w' A (Pl.rdV D (q : Int)) ∧ Below w2.heap.size w2 w') := Lib.hid (rread_any HR2.out (q : Int) HZ.out)
        rw [HER.out] at H2
        have HR2' := Lib.hid hR2
        clear H1 HR HD hb2 hR2 hB
        go_wp2_with fail
        refine H2.out.mono ?_
        rintro e w3 ⟨A3, n3, c3, rfl, hn3, hR3, hb3⟩
        have HR3 := Lib.hid (HR2.out.below hb3)
        have HD3 := Lib.hid (HD2.out.below hb3)
        have hB3 := hB2.trans (hb3.mono hB2.size)
        have hv1 := conv_rows (HR2'.out.below hb3) n2 c2 hn2
        have hv2 := conv_rows hR3 n3 c3 hn3
        generalize str (Pl.rdV D (q : Int)) = S at *
        have hSS : (S.toList == S.toList) = true := by simp
        clear H2 HR2 HD2 hb3 hR3 HR2' hB2 hn2 hn3
        go_wp2
        go_roundw
        case rel => exact ⟨q + 1, by omega, by go_num, HD3, HR3, hB3⟩
        case measure => simp [intOf]; omega
      · go_wp2
        go_ret
        exact ⟨rfl, hB⟩

/-- whether calls are too many, or too long -/
def lng (l : List Pl.Ac) : Bool := l.any (fun x => decide (300 < x.b.length)) || decide (30 < l.length)
abbrev zac : Array Value := #[.int .u8 0, .int .i64 0, .int .i64 0, .int .i64 0, .slice none 0 0]
set_option maxRecDepth 100000 in
set_option maxHeartbeats 4000000 in
theorem long_any (A : Option Addr) (l : List Pl.Ac) (c n : Nat) (hn : l.length = n) (w : World) (hL : LsIn acL 5 AcIn w A l c) (v : Bool) (hv : lng l = v) :
    Calls Try.prog 9 #[.slice A n c] w fun e w' => e = .returned (.bool v) ∧ Below w.heap.size w w' := by
  have hn63 : (n : Int) ≤ 9223372036854775807 := by have h1 := hL.cap; have h2 := hL.top; unfold maxLen at h2; omega
  have HL := Lib.hid hL
  have HN := Lib.hid hn
  have HV := Lib.hid hv
  clear hL hn hv
  go_enter Try.func9, Try.ntmps9
  go_wp2
  go_loopw [7] (fun i wr => ∃ k : Nat, k ≤ n ∧ i = .int .i64 k ∧ Hid (∀ (i : Nat) (hi : i < l.length), i < k → ¬ 300 < l[i].b.length) ∧ Below w.heap.size w wr) (fun i _ => n - (intOf i).toNat)
  case atStart => exact ⟨0, Nat.zero_le _, rfl, Lib.hid (fun i _ hi => absurd hi (Nat.not_lt_zero _)), Below.refl _ _⟩
  case round =>
    obtain ⟨k, hk, rfl, HA, hB⟩ := hrel
    obtain ⟨wo, rfl⟩ : ∃ wo, wo = wr := ⟨_, rfl⟩
    by_cases hlt : k < n
    · have hltI : (k : Int) < (n : Nat) := by omega
      have hkx : k < l.length := by rw [HN.out]; exact hlt
      obtain ⟨bx, ox, rfl, hbx, hcx⟩ := HL.out.rows.open (by omega)
      have hr := row_at hbx hcx hB hkx
      have HY : Hid (∀ (i : Nat) (hi : i < l.length), i = k → l[i].b.length = l[k].b.length) := Lib.hid (fun i hi e => by subst e; rfl)
      have HM := Lib.hid (List.getElem_mem hkx)
      clear hcx
      generalize l[k] = x at *
      have hBz := (Below.refl wo.heap.size wo).alloc (Nat.le_refl _) (.cells zac 31)
      have bz := Blk.new wo 31 zac
      have HBz := Lib.hid hBz
      clear hBz hkx
      by_cases h300 : 300 < x.b.length
      · have h300I : (300 : Int) < (x.b.length : Nat) := by omega
        have HT : Hid (v = true) := Lib.hid (by rw [← HV.out]; unfold lng; rw [List.any_eq_true.2 ⟨x, HM.out, decide_eq_true h300⟩]; rfl)
        go_wp2_with (first | refine ldm_ac hr rfl _ rfl rfl ?_ | (refine st_ac (k := x) bz rfl rfl _ _ rfl rfl rfl ?_; intro w3 bX3 hO3; have q4 : w3.cell? ⟨wo.heap.size, 4, none⟩ = some (.slice x.a x.b.length x.c) := bX3.cell 4))
        go_ret
        exact ⟨by rw [HT.out]; rfl, hB.trans ((HBz.out.trans (hO3.below (Nat.le_refl _))).mono hB.size)⟩
      · have h300I : ¬ (300 : Int) < (x.b.length : Nat) := by omega
        have HX3 := Lib.hid h300
        go_wp2_with (first | refine ldm_ac hr rfl _ rfl rfl ?_ | (refine st_ac (k := x) bz rfl rfl _ _ rfl rfl rfl ?_; intro w3 bX3 hO3; have q4 : w3.cell? ⟨wo.heap.size, 4, none⟩ = some (.slice x.a x.b.length x.c) := bX3.cell 4))
        have hB3 := hB.trans ((HBz.out.trans (hO3.below (Nat.le_refl _))).mono hB.size)
        go_roundw
        case rel => exact ⟨k + 1, by omega, by go_num, Lib.hid (fun i hi hik => by
          rcases Nat.lt_succ_iff_lt_or_eq.1 hik with h' | h'
          · exact HA.out i hi h'
          · rw [HY.out i hi h']; exact HX3.out), hB3⟩
        case measure => simp [intOf]; omega
    · obtain rfl : k = n := by omega
      have HT : Hid (v = decide ((30 : Int) < (k : Nat))) := Lib.hid (by
        rw [← HV.out]
        unfold lng
        rw [HN.out]
        have : l.any (fun x => decide (300 < x.b.length)) = false := by
          rw [List.any_eq_false]
          intro x hx
          obtain ⟨i, hi, rfl⟩ := List.getElem_of_mem hx
          simpa using HA.out i hi (by rw [← HN.out]; exact hi)
        rw [this, Bool.false_or, decide_eq_decide]; omega)
      go_wp2
      go_ret
      exact ⟨by rw [HT.out]; rfl, hB⟩
end Go.Proofs.Ytalfffkcmddakab
