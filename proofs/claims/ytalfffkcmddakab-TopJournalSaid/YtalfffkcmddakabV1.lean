/- LedgerLosses. -/
import Derived.Test.YtalfffkcmddakabZ8
import Derived.Test.YtalfffkcmddakabZ1r
import Derived.Test.YtalfffkcmddakabF3
import Derived.Test.YtalfffkcmddakabR1
namespace Go.Proofs.Ytalfffkcmddakab
open Go.RowKit Go.Shelf

theorem Dsk.frb {w w' : World} {b : Nat} {D D' : Pl.Dk} (_h : Dsk w b D) (k : Dsk w' b D') : Dsk w' b D' := k
theorem arm_goes {w : World} {b : Nat} {D : Pl.Dk} {J : Pl.Jn} (h : Dsk w b D) (g : Pl.Goes D J) (n k : Int) (hn : n.toNat ≤ maxLen) :
    Calls Try.prog 23 #[ptr b, .int .i64 n, .int .i64 k] w fun e w' => e = .returned (.tuple #[]) ∧ (∃ D1, Dsk w' b D1 ∧ Pl.Goes D1 J ∧ D1.st = D.st) ∧ Fr [b] w w' := by
  obtain ⟨v0, v1, kp, h⟩ := h
  exact (arm_any h n k hn).mono fun e w' ⟨he, hd, hf⟩ => ⟨he, ⟨_, ⟨_, _, _, hd⟩, g.arm n k, rfl⟩, hf⟩
theorem restart_d {w : World} {b : Nat} {D : Pl.Dk} (h : Dsk w b D) (hs : D.st < 4611686018427387904) :
    Calls Try.prog 25 #[ptr b] w fun e w' => e = .returned (.tuple #[]) ∧ Dsk w' b (Pl.rsD D) ∧ Fr [b] w w' := by
  obtain ⟨v0, v1, kp, h⟩ := h
  exact (restart_any h hs).mono fun e w' ⟨he, hd, hf⟩ => ⟨he, ⟨_, _, _, hd⟩, hf⟩
theorem turn_d {w : World} {j b : Nat} {J : Pl.Jn} (h : Jnl w j b J) : Calls Try.prog 28 #[ptr j] w fun e w' => e = .returned (.int .i64 (J.t : Nat)) ∧ w' = w := by
  obtain ⟨v, h⟩ := h
  exact turn_any h
theorem image_d {w : World} {j b : Nat} {J : Pl.Jn} (h : Jnl w j b J) (hl : J.im.length ≤ 100000) :
    Calls Try.prog 27 #[ptr j] w fun e w' => ∃ A n c, e = .returned (.slice A n c) ∧ J.im.length = n ∧ Rows u8L 1 w' A J.im ∧ Below w.heap.size w w' := by
  obtain ⟨v, h⟩ := h
  exact (image_any h hl).mono fun e w' ⟨A, c, he, hR, _, _, _, hb⟩ => ⟨A, _, c, he, rfl, hR, hb⟩
theorem dead_d {w : World} {j b : Nat} {J : Pl.Jn} {D : Pl.Dk} (h : Jnl w j b J) (k : Dsk w b D) (x : Bool) (hx : Pl.ded D J = x) : Calls Try.prog 26 #[ptr j] w fun e w' => e = .returned (.bool x) ∧ Below w.heap.size w w' := by
  obtain ⟨v, h⟩ := h
  obtain ⟨v0, v1, kp, k⟩ := k
  exact dead_b h k x hx
theorem Jnl.lt {w : World} {j b : Nat} {J : Pl.Jn} (h : Jnl w j b J) : j < w.heap.size := by obtain ⟨v, h⟩ := h; exact h.blk.lt
theorem Jnl.tm {w : World} {j b : Nat} {J : Pl.Jn} (h : Jnl w j b J) : J.t ≤ 2147483647 := by obtain ⟨v, h⟩ := h; exact h.t
theorem no2 {w : World} {j b : Nat} {J : Pl.Jn} {D : Pl.Dk} (h : Jnl w j b J) (k : Dsk w b D) : ∀ g, g ∈ [b, j] → ∀ o x, ¬ w.cell? ⟨g, o, none⟩ = some (.int .u8 x) := fun g hg o x => by
  simp at hg
  rcases hg with rfl | rfl
  · exact k.no _ (by simp) o x
  · exact h.no _ (by simp) o x
abbrev zct : Array Value := #[.slice none 0 0, .int .u8 0, .int .i64 0]

set_option maxRecDepth 100000 in
set_option maxHeartbeats 16000000 in
theorem law_losses (A : Option Addr) (l : List Pl.Ct) (c n : Nat) (hn : l.length = n) (w : World) (hL : LsIn ctL 3 CtIn w A l c) :
    Calls Try.prog 6 #[.slice A n c] w fun e w' => e = .returned (.bool true) ∧ Below w.heap.size w w' := by
  have hn63 : (n : Int) ≤ 9223372036854775807 := by have h1 := hL.cap; have h2 := hL.top; unfold maxLen at h2; omega
  have HL := Lib.hid hL
  have HN := Lib.hid hn
  clear hL hn
  by_cases h30 : 30 < n
  · have h30I : (30 : Int) < (n : Nat) := by omega
    go_enter Try.func6, Try.ntmps6
    go_wp2_with fail
    refine (awake_any w).mono ?_
    rintro e w1 ⟨rfl, hb⟩
    go_wp2
    go_ret
    exact ⟨rfl, hb⟩
  have h30I : ¬ (30 : Int) < (n : Nat) := by omega
  go_enter Try.func6, Try.ntmps6
  go_wp2_with fail
  refine (newdisk_any w).mono ?_
  rintro e w1 ⟨rfl, hD1, hB1⟩
  have HD1 : Hid (Dsk w1 w.heap.size Pl.dk0) := Lib.hid ⟨_, _, _, hD1⟩
  have hs1 := hB1.size
  clear hD1
  have HO := Lib.hid (open_any HD1.out rfl)
  obtain ⟨b, hb⟩ : ∃ b, b = w.heap.size := ⟨_, rfl⟩
  rw [← hb] at HD1 HO ⊢
  have hbw : w.heap.size ≤ b := by omega
  clear hb
  go_wp2_with fail
  refine HO.out.mono ?_
  rintro e w2 ⟨rfl, hJ2, hb2⟩
  have HD2 := Lib.hid (HD1.out.below hb2)
  have HJ2 := Lib.hid hJ2
  have hB2 := hB1.trans (hb2.mono hs1)
  clear HD1 hJ2 HO hb2 hB1
  generalize w1.heap.size = jb at *
  go_wp2
  go_loopw [4, 6, 7, 28] (fun j la tu i wr => ∃ (k jb : Nat) (D : Pl.Dk) (J : Pl.Jn), k ≤ n ∧ j = ptr jb ∧ la = .string (str J.im) ∧ tu = .int .i64 (J.t : Nat) ∧ i = .int .i64 k ∧ Hid (Dsk wr b D) ∧ Hid (Jnl wr jb b J) ∧ Hid (Pl.Goes D J) ∧ Hid (D.st ≤ 1 + k ∧ J.t ≤ k ∧ J.im.length ≤ 400) ∧ w.heap.size ≤ jb ∧ Below w.heap.size w wr) (fun _ _ _ i _ => n - (intOf i).toNat)
  case atStart => exact ⟨0, jb, Pl.dk0, Pl.opn Pl.dk0, Nat.zero_le _, rfl, by rfl, by rfl, rfl, HD2, HJ2, Lib.hid Pl.goes0, Lib.hid ⟨by decide, by decide, by decide⟩, hs1, hB2⟩
  case round =>
    clear HD2 HJ2 hB2 hs1
    obtain ⟨k, jb, D, J, hk, rfl, rfl, rfl, rfl, HD, HJ, HG, HZ, hjw, hB⟩ := hrel
    obtain ⟨wo, rfl⟩ : ∃ wo, wo = wr := ⟨_, rfl⟩
    by_cases hlt : k < n
    rotate_left
    · go_wp2_with fail
      refine (awake_any _).mono ?_
      rintro e w9 ⟨rfl, hb9⟩
      have hB9 := hB.trans (hb9.mono hB.size)
      go_wp2
      go_ret
      exact ⟨rfl, hB9⟩
    have hltI : (k : Int) < (n : Nat) := by omega
    have hkx : k < l.length := by rw [HN.out]; exact hlt
    obtain ⟨bx, ox, rfl, hbx, hcx⟩ := HL.out.rows.open (by omega)
    have hr := row_at hbx hcx hB hkx
    have HX := Lib.hid ((HL.out.each _ (List.getElem_mem hkx)).below hB)
    clear hcx
    generalize l[k] = x at *
    clear hkx
    have hBz := (Below.refl wo.heap.size wo).alloc (Nat.le_refl _) (.cells zct 58)
    have bz := Blk.new wo 58 zct
    have HBz := Lib.hid hBz
    clear hBz
    have hgw : w.heap.size ≤ wo.heap.size := hB.size
    have hbg : b ≠ wo.heap.size := by have := HD.out.lt; omega
    have hjg : jb ≠ wo.heap.size := by have := HJ.out.lt; omega
    have hx0 := HX.out.k0
    have hx1 := HX.out.k1
    by_cases h400 : 400 < x.im.length
    · have h400I : (400 : Int) < (x.im.length : Nat) := by omega
      go_wp2_with (first | refine ldm_ct hr rfl _ rfl rfl ?_ | (refine st_ct (k := x) bz rfl rfl _ _ rfl rfl rfl ?_; intro w3 bX3 hO3; have q0 : w3.cell? ⟨wo.heap.size, 0, none⟩ = some (.slice x.a x.im.length x.c) := bX3.cell 0; have q1 : w3.cell? ⟨wo.heap.size, 1, none⟩ = some (.int .u8 x.at_) := bX3.cell 1; have q2 : w3.cell? ⟨wo.heap.size, 2, none⟩ = some (.int .i64 x.kp) := bX3.cell 2))
      have hb3 : Below wo.heap.size wo w3 := HBz.out.trans (hO3.below (Nat.le_refl _))
      have HD3 := Lib.hid (HD.out.below hb3)
      have HJ3 := Lib.hid (HJ.out.below hb3)
      have HX3 := Lib.hid (HX.out.below hb3)
      have hB3 := hB.trans (hb3.mono hB.size)
      go_roundw
      case rel => exact ⟨k + 1, jb, D, J, by omega, rfl, rfl, rfl, by go_num, HD3, HJ3, HG, Lib.hid (by have := HZ.out; omega), hjw, hB3⟩
      case measure => simp [intOf]; omega
    have h400I : ¬ (400 : Int) < (x.im.length : Nat) := by omega
    go_wp2_with (first | refine ldm_ct hr rfl _ rfl rfl ?_ | (refine st_ct (k := x) bz rfl rfl _ _ rfl rfl rfl ?_; intro w3 bX3 hO3; have q0 : w3.cell? ⟨wo.heap.size, 0, none⟩ = some (.slice x.a x.im.length x.c) := bX3.cell 0; have q1 : w3.cell? ⟨wo.heap.size, 1, none⟩ = some (.int .u8 x.at_) := bX3.cell 1; have q2 : w3.cell? ⟨wo.heap.size, 2, none⟩ = some (.int .i64 x.kp) := bX3.cell 2))
    have hb3 : Below wo.heap.size wo w3 := HBz.out.trans (hO3.below (Nat.le_refl _))
    have HD3 := Lib.hid (HD.out.below hb3)
    have HJ3 := Lib.hid (HJ.out.below hb3)
    have HX3 := Lib.hid (HX.out.below hb3)
    have hB3 := hB.trans (hb3.mono hB.size)
    clear hr bz HBz hO3 hb3 HD HJ HX hB
    have HA := Lib.hid (arm_goes HD3.out HG.out)
    refine (HA.out _ _ (by unfold maxLen; omega)).mono ?_
    rintro e w4 ⟨rfl, ⟨D1, hD4, hG4, hst4⟩, hF4⟩
    have HJ4 := Lib.hid (HJ3.out.frb HD3.out hF4)
    have HX4 : Hid (InB w4 x.a x.im x.c) := Lib.hid ⟨HX3.out.im.rows.apart hF4 HD3.out.no, HX3.out.im.cap, HX3.out.im.top, HX3.out.im.nil⟩
    have bX4 := bX3.fr hF4 (by simpa using Ne.symm hbg)
    have hB4 := hB3.trans (hF4.below (B := w.heap.size) (by intro k hk; simp at hk; omega) hB3.size)
    have HD4 := Lib.hid hD4
    have HG4 := Lib.hid hG4
    have HST := Lib.hid hst4
    clear HA hF4 hB3 bX3 q0 q1 q2 HD3 HJ3 HX3 HG hD4 hG4 hst4 hx0 hx1
    have q0 : w4.cell? ⟨wo.heap.size, 0, none⟩ = some (.slice x.a x.im.length x.c) := bX4.cell 0
    have him : Hid (x.im.length ≤ 65536 ∧ J.t + 1 ≤ 2147483647 ∧ x.im.length ≤ 400) := Lib.hid (by have := HZ.out; omega)
    have HS := Lib.hid (save_any HJ4.out HD4.out x.a x.im x.im.length x.c rfl HX4.out.cap HX4.out.top HX4.out.nil HX4.out.rows)
    have HV := Lib.hid (HG4.out.svE him.out.1 him.out.2.1)
    rw [HV.out] at HS
    by_cases hf : D1.fl = 1
    · rw [if_pos hf] at HS
      have HQ := Lib.hid (HG4.out.lost him.out.1 him.out.2.1 hf)
      clear HV hf HG4
      go_wp2_with fail
      refine (show Calls Try.prog 24 _ _ _ from HS.out).mono ?_
      rintro e w5 ⟨rfl, hD5, hJ5, hF5⟩
      have HX5 : Hid (InB w5 x.a x.im x.c) := Lib.hid ⟨HX4.out.rows.apart hF5 (no2 HJ4.out HD4.out), HX4.out.cap, HX4.out.top, HX4.out.nil⟩
      have bX5 := bX4.fr hF5 (by simp [Ne.symm hbg, Ne.symm hjg])
      have hB5 := hB4.trans (hF5.below (B := w.heap.size) (by intro k hk; simp at hk; omega) hB4.size)
      have HD5 := Lib.hid hD5
      have HJ5 := Lib.hid hJ5
      have HS5 : Hid ((Pl.svD D1 J x.im).st + 1 = D1.st + 1) := Lib.hid HQ.out.2.2.2.2.1
      clear HS hD5 hJ5 hF5 hB4 bX4 q0 HX4 HD4 HJ4
      generalize Pl.svD D1 J x.im = D2 at *
      generalize Pl.svJ D1 J x.im = J2 at *
      have HR := Lib.hid (restart_d HD5.out (by have h1 := HS5.out; have h2 := HST.out; have h3 := HZ.out; omega))
      go_wp2_with fail
      refine HR.out.mono ?_
      rintro e w6 ⟨rfl, hD6, hF6⟩
      have HX6 : Hid (InB w6 x.a x.im x.c) := Lib.hid ⟨HX5.out.rows.apart hF6 HD5.out.no, HX5.out.cap, HX5.out.top, HX5.out.nil⟩
      have HJ6 := Lib.hid (HJ5.out.frb HD5.out hF6)
      have bX6 := bX5.fr hF6 (by simpa using Ne.symm hbg)
      have hB6 := hB5.trans (hF6.below (B := w.heap.size) (by intro k hk; simp at hk; omega) hB5.size)
      have HD6 := Lib.hid hD6
      clear HR hD6 hF6 hB5 bX5 HX5 HD5 HJ5
      have HO := Lib.hid (open_any HD6.out rfl)
      go_wp2_with fail
      refine HO.out.mono ?_
      rintro e w7 ⟨rfl, hK7, hb7⟩
      have HX7 := Lib.hid (HX6.out.below hb7)
      have HJ7 := Lib.hid (HJ6.out.below hb7)
      have HD7 := Lib.hid (HD6.out.below hb7)
      have HK7 := Lib.hid hK7
      have bX7 := bX6.below hb7 bX6.lt
      have hjb2 : w.heap.size ≤ w6.heap.size := hB6.size
      have hB7 := hB6.trans (hb7.mono hB6.size)
      clear HO hK7 hb7 hB6 bX6 HX6 HJ6 HD6
      generalize w6.heap.size = kb at *
      obtain ⟨hfd, him2, ht2, hG9, hst9, hor⟩ := HQ.out
      have HDE := Lib.hid (dead_d HJ7.out HD7.out true (Pl.ded_fd hfd))
      clear HQ
      go_wp2_with fail
      refine HDE.out.mono ?_
      rintro e w8 ⟨rfl, hb8⟩
      have HX8 := Lib.hid (HX7.out.below hb8)
      have HJ8 := Lib.hid (HJ7.out.below hb8)
      have HD8 := Lib.hid (HD7.out.below hb8)
      have HK8 := Lib.hid (HK7.out.below hb8)
      have bX8 := bX7.below hb8 bX7.lt
      have hB8 := hB7.trans (hb8.mono hB7.size)
      have HSD := Lib.hid (save_dead HJ8.out HD8.out none 0 0 (Pl.ded_fd hfd))
      clear HDE hb8 hB7 bX7 HX7 HJ7 HD7 HK7
      go_wp2_with fail
      refine HSD.out.mono ?_
      rintro e w9 ⟨rfl, hb9⟩
      have HX9 := Lib.hid (HX8.out.below hb9)
      have HJ9 := Lib.hid (HJ8.out.below hb9)
      have HD9 := Lib.hid (HD8.out.below hb9)
      have HK9 := Lib.hid (HK8.out.below hb9)
      have bX9 := bX8.below hb9 bX8.lt
      have hB9 := hB8.trans (hb9.mono hB8.size)
      have HI := Lib.hid (image_d HJ9.out (by rw [him2]; have := HZ.out; omega))
      rw [him2] at HI
      clear HSD hb9 hB8 bX8 HX8 HJ8 HD8 HK8
      go_wp2_with fail
      refine HI.out.mono ?_
      rintro e w10 ⟨A10, n10, c10, rfl, hn10, hR10, hb10⟩
      have hcv := conv_rows hR10 n10 c10 hn10
      have HX10 := Lib.hid (HX9.out.below hb10)
      have HD10 := Lib.hid (HD9.out.below hb10)
      have HK10 := Lib.hid (HK9.out.below hb10)
      have bX10 := bX9.below hb10 bX9.lt
      have hB10 := hB9.trans (hb10.mono hB9.size)
      have HH := Lib.hid hor
      have HG9 := Lib.hid hG9
      have HST9 := Lib.hid hst9
      have hlen : Hid ((Pl.opn (Pl.rsD D2)).im.length ≤ 400 ∧ (Pl.opn (Pl.rsD D2)).t ≤ k + 1) := Lib.hid (by
        have h1 := HZ.out; have h2 := him.out
        rcases hor with ⟨e1, e2⟩ | ⟨e1, e2⟩ <;> rw [e1, e2] <;> omega)
      have HZ3 : Hid ((Pl.rsD D2).st ≤ 1 + (k + 1)) := Lib.hid (by have h1 := HZ.out; have h2 := HST.out; omega)
      clear HI hb10 hB9 bX9 HX9 HJ9 HD9 HK9 hR10 hor hG9 hst9 hfd ht2
      generalize Pl.opn (Pl.rsD D2) = J3 at *
      generalize Pl.rsD D2 = D3 at *
      have HI2 := Lib.hid (image_d HK10.out (by have := hlen.out; omega))
      obtain ⟨S1, hS1⟩ : ∃ S, S = str J.im := ⟨_, rfl⟩
      have HS1 := Lib.hid hS1
      have hSS : (S1.toList == S1.toList) = true := by simp
      rw [← hS1] at hcv ⊢
      clear hS1
      go_wp2_with fail
      clear hcv
      refine HI2.out.mono ?_
      rintro e w11 ⟨A11, n11, c11, rfl, hn11, hR11, hb11⟩
      have hcv := conv_rows hR11 n11 c11 hn11
      have HX11 := Lib.hid (HX10.out.below hb11)
      have HD11 := Lib.hid (HD10.out.below hb11)
      have HK11 := Lib.hid (HK10.out.below hb11)
      have bX11 := bX10.below hb11 bX10.lt
      have hB11 := hB10.trans (hb11.mono hB10.size)
      have HT := Lib.hid (turn_d HK11.out)
      have q0 : w11.cell? ⟨wo.heap.size, 0, none⟩ = some (.slice x.a x.im.length x.c) := bX11.cell 0
      have hcx := conv_rows HX11.out.rows x.im.length x.c rfl
      clear HI2 hb11 hB10 bX10 HX10 HD10 HK10 hR11
      rcases HH.out with ⟨e1, e2⟩ | ⟨e1, e2⟩
      case' inl =>
        rw [e1] at HT
        rw [e2, ← HS1.out] at hcv
        have HE2 : Hid (S1 = str J3.im) := Lib.hid (by rw [e2]; exact HS1.out)
        have HT2 : Hid (J3.t = J.t) := Lib.hid e1
        clear HH e1 e2 hcx
        go_wp2_with fail
        refine (show Calls Try.prog 28 _ _ _ from HT.out).mono ?_
        rintro e w12 ⟨rfl, rfl⟩
      case' inr =>
        rw [e1] at HT
        have HT2 : Hid (J3.t = J.t + 1) := Lib.hid e1
        obtain ⟨S2, hS2⟩ : ∃ S, S = str x.im := ⟨_, rfl⟩
        have hSS2 : (S2.toList == S2.toList) = true := by simp
        rw [e2, ← hS2] at hcv
        rw [← hS2] at hcx
        have HE2 : Hid (S2 = str J3.im) := Lib.hid (by rw [e2]; exact hS2)
        have hne : ((((J.t + 1 : Nat) : Int)) != (J.t : Int)) = true := by rw [bne_iff_ne]; omega
        have hpl : (((J.t + 1 : Nat) : Int)) = (J.t : Int) + 1 := by omega
        have hbd : (J.t : Int) + 1 ≤ 9223372036854775807 := by have := HZ.out; omega
        have hb0 : (0 : Int) ≤ (J.t : Int) := by omega
        rw [hpl] at HT hne
        clear HH e1 e2 hS2 hpl
        go_wp2_with fail
        refine (show Calls Try.prog 28 _ _ _ from HT.out).mono ?_
        rintro e w12 ⟨rfl, rfl⟩
        go_wp2_with fail
        refine (show Calls Try.prog 28 _ _ _ from HT.out).mono ?_
        rintro e w12 ⟨rfl, rfl⟩
      all_goals
        go_wp2_with fail
        refine (show Calls Try.prog 28 _ _ _ from HT.out).mono ?_
        rintro e w12 ⟨rfl, rfl⟩
        go_wp2
        go_roundw
        case rel => exact ⟨k + 1, kb, D3, J3, by omega, rfl, by rw [HE2.out], by rw [HT2.out]; try go_num, by go_num, HD11, HK11, HG9, Lib.hid ⟨HZ3.out, hlen.out.2, hlen.out.1⟩, hjb2, hB11⟩
        case measure => simp [intOf]; omega
    · rw [if_neg hf] at HS
      obtain ⟨hG9, ht9, hi9, hs9⟩ := HG4.out.ok him.out.1 him.out.2.1 hf
      have HG9 := Lib.hid hG9
      have HT9 := Lib.hid ht9
      have HI9 := Lib.hid hi9
      have HS9 := Lib.hid hs9
      clear HV hf HG4 hG9 ht9 hi9 hs9
      go_wp2_with fail
      refine (show Calls Try.prog 24 _ _ _ from HS.out).mono ?_
      rintro e w5 ⟨rfl, hD5, hJ5, hF5⟩
      have HX5 : Hid (InB w5 x.a x.im x.c) := Lib.hid ⟨HX4.out.rows.apart hF5 (no2 HJ4.out HD4.out), HX4.out.cap, HX4.out.top, HX4.out.nil⟩
      have bX5 := bX4.fr hF5 (by simp [Ne.symm hbg, Ne.symm hjg])
      have hB5 := hB4.trans (hF5.below (B := w.heap.size) (by intro k hk; simp at hk; omega) hB4.size)
      have HD5 := Lib.hid hD5
      have HJ5 := Lib.hid hJ5
      have hcx := conv_rows HX5.out.rows x.im.length x.c rfl
      clear HS hD5 hJ5 hF5 hB4 bX4 q0 HX4 HD4 HJ4
      have q0 : w5.cell? ⟨wo.heap.size, 0, none⟩ = some (.slice x.a x.im.length x.c) := bX5.cell 0
      have hbd : (J.t : Int) + 1 ≤ 9223372036854775807 := by have := HZ.out; omega
      generalize Pl.svD D1 J x.im = D2 at *
      generalize Pl.svJ D1 J x.im = J2 at *
      go_wp2
      go_roundw
      case rel => exact ⟨k + 1, jb, D2, J2, by omega, rfl, by rw [HI9.out], by rw [HT9.out]; try go_num, by go_num, HD5, HJ5, HG9, Lib.hid (by have h1 := HZ.out; have h2 := HT9.out; have h3 := HS9.out; have h4 := HST.out; have h5 := him.out; rw [HI9.out, h2, h3, h4]; omega), hjw, hB5⟩
      case measure => simp [intOf]; omega
end Go.Proofs.Ytalfffkcmddakab
