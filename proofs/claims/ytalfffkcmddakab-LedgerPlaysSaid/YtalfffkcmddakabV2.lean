/- LedgerDisks. -/
import Derived.Test.YtalfffkcmddakabA2
import Derived.Test.YtalfffkcmddakabC1
namespace Go.Proofs.Ytalfffkcmddakab
open Go.RowKit Go.Shelf

theorem lng_no {l : List Pl.Ac} (h : lng l = false) : l.length ≤ 30 ∧ ∀ x, x ∈ l → x.b.length ≤ 300 := by
  unfold lng at h
  rw [Bool.or_eq_false_iff, List.any_eq_false, decide_eq_false_iff_not] at h
  exact ⟨by omega, fun x hx => by have := h.1 x hx; simp at this; omega⟩
theorem LsIn.belowA {W W' : World} {A : Option Addr} {l : List Pl.Ac} {c : Nat} (h : LsIn acL 5 AcIn W A l c) (hb : Below W.heap.size W W') : LsIn acL 5 AcIn W' A l c := ⟨h.rows.below hb, h.cap, h.top, fun y hy => (h.each y hy).below hb⟩

set_option maxRecDepth 100000 in
set_option maxHeartbeats 16000000 in
theorem law_disks (A : Option Addr) (l : List Pl.Ac) (c n : Nat) (hn : l.length = n) (B : Option Addr) (m : List Pl.Ac) (d p : Nat) (hp : m.length = p) (w : World) (hL : LsIn acL 5 AcIn w A l c) (hM : LsIn acL 5 AcIn w B m d) :
    Calls Try.prog 3 #[.slice A n c, .slice B p d] w fun e w' => e = .returned (.bool true) ∧ Below w.heap.size w w' := by
  have H1 := Lib.hid (long_any A l c n hn w hL)
  have H2 := Lib.hid (fun W hb => long_any B m d p hp W (hM.belowA (W' := W) hb))
  have hn63 : (n : Int) ≤ 9223372036854775807 := by have h1 := hL.cap; have h2 := hL.top; unfold maxLen at h2; omega
  have hp63 : (p : Int) ≤ 9223372036854775807 := by have h1 := hM.cap; have h2 := hM.top; unfold maxLen at h2; omega
  have HL := Lib.hid hL
  have HM := Lib.hid hM
  have HN := Lib.hid hn
  have HP := Lib.hid hp
  clear hL hM hn hp
  obtain ⟨x, hx⟩ : ∃ x, lng l = x := ⟨_, rfl⟩
  have H1' := Lib.hid (H1.out x hx)
  have HX := Lib.hid hx
  clear H1 hx
  cases x
  rotate_left
  · go_enter Try.func3, Try.ntmps3
    go_wp2_with fail
    refine H1'.out.mono ?_
    rintro e w1 ⟨rfl, hb1⟩
    go_wp2_with fail
    refine (awake_any _).mono ?_
    rintro e w2 ⟨rfl, hb2⟩
    have hB2 := hb1.trans (hb2.mono hb1.size)
    go_wp2
    go_ret
    exact ⟨rfl, hB2⟩
  obtain ⟨y, hy⟩ : ∃ y, lng m = y := ⟨_, rfl⟩
  have H2' := Lib.hid (fun W hb => H2.out W hb y hy)
  have HY := Lib.hid hy
  clear H2 hy
  cases y
  rotate_left
  · go_enter Try.func3, Try.ntmps3
    go_wp2_with fail
    refine H1'.out.mono ?_
    rintro e w1 ⟨rfl, hb1⟩
    go_wp2_with fail
    refine (H2'.out w1 hb1).mono ?_
    rintro e w2 ⟨rfl, hb2⟩
    have hB2 := hb1.trans (hb2.mono hb1.size)
    go_wp2_with fail
    refine (awake_any _).mono ?_
    rintro e w3 ⟨rfl, hb3⟩
    have hB3 := hB2.trans (hb3.mono hB2.size)
    go_wp2
    go_ret
    exact ⟨rfl, hB3⟩
  obtain ⟨hl1, hl2⟩ := lng_no HX.out
  obtain ⟨hm1, hm2⟩ := lng_no HY.out
  have HL2 := Lib.hid hl2
  have HM2 := Lib.hid hm2
  have hn30 : n ≤ 30 := by rw [← HN.out]; exact hl1
  have hp30 : p ≤ 30 := by rw [← HP.out]; exact hm1
  clear HX HY hl1 hl2 hm1 hm2
  go_enter Try.func3, Try.ntmps3
  go_wp2_with fail
  refine H1'.out.mono ?_
  rintro e w1 ⟨rfl, hb1⟩
  go_wp2_with fail
  refine (H2'.out w1 hb1).mono ?_
  rintro e w2 ⟨rfl, hb2⟩
  have hB2 := hb1.trans (hb2.mono hb1.size)
  clear H1' H2' hb1 hb2
  go_wp2_with fail
  refine (newdisk_any w2).mono ?_
  rintro e w3 ⟨rfl, hD3, hb3⟩
  have HD3 : Hid (Dsk w3 w2.heap.size Pl.dk0) := Lib.hid ⟨_, _, _, hD3⟩
  have hB3 := hB2.trans (hb3.mono hB2.size)
  have hbw : w.heap.size ≤ w2.heap.size := hB2.size
  have hrw : w.heap.size ≤ w3.heap.size := hB3.size
  clear hD3 hb3 hB2
  generalize w2.heap.size = b at *
  go_wp2_with fail
  refine (rnew_any w3).mono ?_
  rintro e w4 ⟨rfl, hR4, hb4⟩
  have HD4 := Lib.hid (HD3.out.below hb4)
  have HR4 := Lib.hid hR4
  have hB4 := hB3.trans (hb4.mono hrw)
  clear HD3 hR4 hb4 hB3
  generalize w3.heap.size = r at *
  go_wp2
  go_loopw [24] (fun i wr => ∃ (k : Nat) (D : Pl.Dk), k ≤ n ∧ i = .int .i64 k ∧ Hid (Dsk wr b D) ∧ Hid (Rsk wr r D) ∧ Hid (Sz D ∧ D.st ≤ 1 + k) ∧ Below w.heap.size w wr) (fun i _ => n - (intOf i).toNat)
  case atStart => exact ⟨0, Pl.dk0, Nat.zero_le _, rfl, HD4, HR4, Lib.hid ⟨⟨by decide, by decide⟩, by decide⟩, hB4⟩
  case round =>
    clear HD4 HR4 hB4
    obtain ⟨k, D, hk, rfl, HD, HR, HZ, hB⟩ := hrel
    obtain ⟨wo, rfl⟩ : ∃ wo, wo = wr := ⟨_, rfl⟩
    by_cases hlt : k < n
    · have hltI : (k : Int) < (n : Nat) := by omega
      have hkx : k < l.length := by rw [HN.out]; exact hlt
      obtain ⟨bx, ox, rfl, hbx, hcx⟩ := HL.out.rows.open (by omega)
      have hr := row_at hbx hcx hB hkx
      have HX := Lib.hid ((HL.out.each _ (List.getElem_mem hkx)).below hB)
      have H3 := Lib.hid (HL2.out _ (List.getElem_mem hkx))
      clear hcx
      generalize l[k] = x at *
      clear hkx
      have hBz := (Below.refl wo.heap.size wo).alloc (Nat.le_refl _) (.cells zac 31)
      have bz := Blk.new wo 31 zac
      have HBz := Lib.hid hBz
      clear hBz
      go_wp2_with (first | refine ldm_ac hr rfl _ rfl rfl ?_ | (refine st_ac (k := x) bz rfl rfl _ _ rfl rfl rfl ?_; intro w5 bX5 hO5; have hr5 := bX5.range) | refine ldm_ac hr5 rfl _ rfl rfl ?_)
      have hb5 : Below wo.heap.size wo w5 := HBz.out.trans (hO5.below (Nat.le_refl _))
      have HD5 := Lib.hid (HD.out.below hb5)
      have HR5 := Lib.hid (HR.out.below hb5)
      have HX5 := Lib.hid (HX.out.below hb5)
      have hB5 := hB.trans (hb5.mono hB.size)
      clear hr hr5 bz HBz hO5 hb5 HD HR HX hB bX5
      refine (act_any HD5.out HR5.out HZ.out.1 (by have := HZ.out.2; omega) x HX5.out (by have := H3.out; omega)).mono ?_
      rintro e w6 ⟨rfl, hD6, hR6, hF6⟩
      have HD6 := Lib.hid hD6
      have HR6 := Lib.hid hR6
      have HZ6 := Lib.hid (ac_sz HZ.out.1 x (x.k % 5) (by have := H3.out; omega))
      have HZ7 : Hid (Sz (acD D x (x.k % 5)) ∧ (acD D x (x.k % 5)).st ≤ 1 + (k + 1)) := Lib.hid ⟨HZ6.out.1, by have h1 := HZ.out.2; have h2 := HZ6.out.2; omega⟩
      have hB6 := hB5.trans (hF6.below (B := w.heap.size) (by intro k hk; simp at hk; omega) hB5.size)
      clear HD5 HR5 HX5 hB5 hD6 hR6 hF6 HZ HZ6
      generalize acD D x (x.k % 5) = D2 at *
      go_wp2_with fail
      refine (alike_any HD6.out HR6.out HZ7.out.1).mono ?_
      rintro e w7 ⟨rfl, hb7⟩
      have HD7 := Lib.hid (HD6.out.below hb7)
      have HR7 := Lib.hid (HR6.out.below hb7)
      have hB7 := hB6.trans (hb7.mono hB6.size)
      clear HD6 HR6 hb7 hB6
      go_wp2
      go_roundw
      case rel => exact ⟨k + 1, D2, by omega, by go_num, HD7, HR7, HZ7, hB7⟩
      case measure => simp [intOf]; omega
    obtain rfl : k = n := by omega
    have HCO := Lib.hid (copy_any HD.out HZ.out.1)
    go_wp2_with fail
    refine HCO.out.mono ?_
    rintro e w5 ⟨cb, rfl, hcb, hC5, hb5⟩
    have HD5 := Lib.hid (HD.out.below hb5)
    have HR5 := Lib.hid (HR.out.below hb5)
    have HC5 := Lib.hid hC5
    have hB5 := hB.trans (hb5.mono hB.size)
    have hdc : b ≠ cb := by have := HD.out.lt; omega
    have hdr : r ≠ cb := by have := HR.out.lt; omega
    have hcw : w.heap.size ≤ cb := by have := hB.size; omega
    have HRC := Lib.hid (rcopy_any HR5.out HZ.out.1)
    clear HCO hC5 hb5 HD HR hB
    go_wp2_with fail
    refine HRC.out.mono ?_
    rintro e w6 ⟨rb, rfl, hrb, hS6, hb6⟩
    have HD6 := Lib.hid (HD5.out.below hb6)
    have HR6 := Lib.hid (HR5.out.below hb6)
    have HC6 := Lib.hid (HC5.out.below hb6)
    have HS6 := Lib.hid hS6
    have hB6 := hB5.trans (hb6.mono hB5.size)
    have hdc2 : b ≠ rb := by have := HD5.out.lt; omega
    have hdr2 : r ≠ rb := by have := HR5.out.lt; omega
    have hrbw : w.heap.size ≤ rb := by have := hB5.size; omega
    clear HRC hS6 hb6 HD5 HR5 HC5 hB5
    go_wp2
    go_loopw [46] (fun i wr => ∃ (q : Nat) (E : Pl.Dk), q ≤ p ∧ i = .int .i64 q ∧ Hid (Dsk wr b D) ∧ Hid (Rsk wr r D) ∧ Hid (Dsk wr cb E) ∧ Hid (Rsk wr rb E) ∧ Hid (Sz E ∧ E.st ≤ 31 + q) ∧ Below w.heap.size w wr) (fun i _ => p - (intOf i).toNat)
    case atStart => exact ⟨0, D, Nat.zero_le _, rfl, HD6, HR6, HC6, HS6, Lib.hid ⟨HZ.out.1, by have := HZ.out.2; omega⟩, hB6⟩
    case round =>
      clear HD6 HR6 HC6 HS6 hB6
      obtain ⟨q, E, hq, rfl, HD, HR, HC, HS, HZE, hB⟩ := hrel
      obtain ⟨wi, rfl⟩ : ∃ wi, wi = wr := ⟨_, rfl⟩
      by_cases hlt2 : q < p
      · have hltI2 : (q : Int) < (p : Nat) := by omega
        have hkx : q < m.length := by rw [HP.out]; exact hlt2
        obtain ⟨bx, ox, rfl, hbx, hcx⟩ := HM.out.rows.open (by omega)
        have hr := row_at hbx hcx hB hkx
        have HX := Lib.hid ((HM.out.each _ (List.getElem_mem hkx)).below hB)
        have H3 := Lib.hid (HM2.out _ (List.getElem_mem hkx))
        clear hcx
        generalize m[q] = x at *
        clear hkx
        have hBz := (Below.refl wi.heap.size wi).alloc (Nat.le_refl _) (.cells zac 31)
        have bz := Blk.new wi 31 zac
        have HBz := Lib.hid hBz
        clear hBz
        go_wp2_with (first | refine ldm_ac hr rfl _ rfl rfl ?_ | (refine st_ac (k := x) bz rfl rfl _ _ rfl rfl rfl ?_; intro w5 bX5 hO5; have hr5 := bX5.range) | refine ldm_ac hr5 rfl _ rfl rfl ?_)
        have hb5 : Below wi.heap.size wi w5 := HBz.out.trans (hO5.below (Nat.le_refl _))
        have HD5 := Lib.hid (HD.out.below hb5)
        have HR5 := Lib.hid (HR.out.below hb5)
        have HC5 := Lib.hid (HC.out.below hb5)
        have HS5 := Lib.hid (HS.out.below hb5)
        have HX5 := Lib.hid (HX.out.below hb5)
        have hB5 := hB.trans (hb5.mono hB.size)
        clear hr hr5 bz HBz hO5 hb5 HD HR HC HS HX hB bX5
        refine (act_any HC5.out HS5.out HZE.out.1 (by have := HZE.out.2; omega) x HX5.out (by have := H3.out; omega)).mono ?_
        rintro e w6 ⟨rfl, hC6, hS6, hF6⟩
        have hat : ∀ g, g ∈ [cb, rb] → g < w5.heap.size → ∃ t cs, Blk w5 g t cs ∧ t ≠ 5 := fun g hg hl => by
          simp at hg
          rcases hg with rfl | rfl
          · exact HC5.out.at_ _ (by simp) hl
          · exact HS5.out.at_ _ (by simp) hl
        have HD6 := Lib.hid (HD5.out.fr hF6 (by simp [hdc, hdc2]) hat)
        have HR6 := Lib.hid (HR5.out.fr hF6 (by simp [hdr, hdr2]) hat)
        have HC6 := Lib.hid hC6
        have HS6 := Lib.hid hS6
        have HZ6 := Lib.hid (ac_sz HZE.out.1 x (x.k % 5) (by have := H3.out; omega))
        have HZ7 : Hid (Sz (acD E x (x.k % 5)) ∧ (acD E x (x.k % 5)).st ≤ 31 + (q + 1)) := Lib.hid ⟨HZ6.out.1, by have h1 := HZE.out.2; have h2 := HZ6.out.2; omega⟩
        have hB6 := hB5.trans (hF6.below (B := w.heap.size) (by intro k hk; simp at hk; omega) hB5.size)
        clear HD5 HR5 HC5 HS5 HX5 hB5 hC6 hS6 hF6 HZE HZ6 hat
        generalize acD E x (x.k % 5) = E2 at *
        go_wp2_with fail
        refine (alike_any HC6.out HS6.out HZ7.out.1).mono ?_
        rintro e w7 ⟨rfl, hb7⟩
        have HD7 := Lib.hid (HD6.out.below hb7)
        have HR7 := Lib.hid (HR6.out.below hb7)
        have HC7 := Lib.hid (HC6.out.below hb7)
        have HS7 := Lib.hid (HS6.out.below hb7)
        have hB7 := hB6.trans (hb7.mono hB6.size)
        clear HD6 HR6 HC6 HS6 hb7 hB6
        go_wp2_with fail
        refine (alike_any HD7.out HR7.out HZ.out.1).mono ?_
        rintro e w8 ⟨rfl, hb8⟩
        have HD8 := Lib.hid (HD7.out.below hb8)
        have HR8 := Lib.hid (HR7.out.below hb8)
        have HC8 := Lib.hid (HC7.out.below hb8)
        have HS8 := Lib.hid (HS7.out.below hb8)
        have hB8 := hB7.trans (hb8.mono hB7.size)
        clear HD7 HR7 HC7 HS7 hb8 hB7
        go_wp2
        go_roundw
        case rel => exact ⟨q + 1, E2, by omega, by go_num, HD8, HR8, HC8, HS8, HZ7, hB8⟩
        case measure => simp [intOf]; omega
      · go_wp2_with fail
        refine (alike_any HD.out HR.out HZ.out.1).mono ?_
        rintro e w8 ⟨rfl, hb8⟩
        have hB8 := hB.trans (hb8.mono hB.size)
        go_wp2_with fail
        refine (awake_any _).mono ?_
        rintro e w9 ⟨rfl, hb9⟩
        have hB9 := hB8.trans (hb9.mono hB8.size)
        go_wp2
        go_ret
        exact ⟨rfl, hB9⟩
end Go.Proofs.Ytalfffkcmddakab
