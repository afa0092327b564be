/- TopJournal. -/
import Derived.Test.YtalfffkcmddakabOpenP
import Derived.Test.YtalfffkcmddakabJP
import Derived.Test.YtalfffkcmddakabV1
import Derived.Test.YtalfffkcmddakabW1
import Derived.Test.YtalfffkcmddakabW2
import Derived.Test.YtalfffkcmddakabW8
import Derived.Test.YtalfffkcmddakabJS
namespace Go.Proofs.Ytalfffkcmddakab
open Go.RowKit Go.Shelf

theorem own_frt {S : List Nat} {B k n : Nat} {t : TypeId} {v : Value} {xs : List Value} {w w' : World} (h : w.ownsRow B t k v n xs) (hf : Fr S w w') (hS : ∀ g, g ∈ S → g < w.heap.size → ∃ t' cs, Blk w g t' cs ∧ t' ≠ t) : w'.ownsRow B t k v n xs := by
  refine ⟨h.1, ?_⟩
  rcases h.2 with hn | ⟨g, cap, cur, rfl, hb, hg, rest⟩
  · exact .inl hn
  · refine .inr ⟨g, cap, cur, rfl, hb, ?_, rest⟩
    have hlt : g < w.heap.size := (Array.getElem?_eq_some_iff.1 hg).1
    rw [hf.block g hlt fun hm => ?_]
    · exact hg
    · obtain ⟨t', cs, hB, ht⟩ := hS g hm hlt
      exact ht (hB.one (show Blk w g t cur from hg))
theorem tDE : (39 : TypeId) ≠ 72 := by decide
theorem tJE : (42 : TypeId) ≠ 72 := by decide
theorem dsk_e {w : World} {b : Nat} {D : Pl.Dk} (h : Dsk w b D) : ∀ g, g ∈ [b] → g < w.heap.size → ∃ t' cs, Blk w g t' cs ∧ t' ≠ 72 := fun g hg _ => by
  obtain ⟨v0, v1, kp, h⟩ := h
  simp at hg; subst hg; exact ⟨_, _, h.blk, tDE⟩
theorem dj_e {w : World} {b j : Nat} {D : Pl.Dk} {J : Pl.Jn} (h : Dsk w b D) (k : Jnl w j b J) : ∀ g, g ∈ [b, j] → g < w.heap.size → ∃ t' cs, Blk w g t' cs ∧ t' ≠ 72 := fun g hg _ => by
  obtain ⟨v0, v1, kp, h⟩ := h
  obtain ⟨v, k⟩ := k
  simp at hg
  rcases hg with rfl | rfl
  · exact ⟨_, _, h.blk, tDE⟩
  · exact ⟨_, _, k.blk, tJE⟩
theorem arm_one {w : World} {b : Nat} {D : Pl.Dk} (h : Dsk w b D) (k : Int) :
    Calls Try.prog 23 #[ptr b, .int .i64 1, .int .i64 k] w fun e w' => e = .returned (.tuple #[]) ∧ Dsk w' b (Pl.armD D 1 k) ∧ Fr [b] w w' := by
  obtain ⟨v0, v1, kp, h⟩ := h
  exact (arm_any h 1 k (by decide)).mono fun e w' ⟨he, hd, hf⟩ => ⟨he, ⟨_, _, _, hd⟩, hf⟩
theorem encL_le {N : List Pl.En} (h : Pl.Vb N) : (Pl.encL N).length ≤ 2600 := by
  rw [Pl.encL_len]; have := h.len; omega
/-- Rows of an own row, and its slice -/
theorem rows_of8 {W : World} {base : Nat} {v : Value} {l : Pl.Bs} (h : W.ownsRow base 5 1 v l.length (flt u8L l)) : ∃ A c, v = .slice A l.length c ∧ Rows u8L 1 W A l ∧ l.length ≤ c ∧ c ≤ maxLen ∧ (A = none → c = 0) := by
  obtain ⟨A, c, rfl, h1, h2, h3⟩ := rows_of_owns encU8 h
  refine ⟨A, c, rfl, h1, h2, h3, fun e => ?_⟩
  subst e
  rcases h.2 with ⟨h, _⟩ | ⟨g, cap, cur, h, _⟩
  · injection h
  · cases h
theorem image_x {w : World} {j b : Nat} {J : Pl.Jn} {X : List Pl.En} (h : Jnl w j b J) (him : J.im = Pl.encL X) (hv : Pl.Vb X) :
    Calls Try.prog 27 #[ptr j] w fun e w' => ∃ A c, e = .returned (.slice A (Pl.encL X).length c) ∧ Rows u8L 1 w' A (Pl.encL X) ∧ (Pl.encL X).length ≤ c ∧ Below w.heap.size w w' := by
  obtain ⟨v, h⟩ := h
  have := image_any h (by rw [him]; have := encL_le hv; omega)
  rw [him] at this
  refine this.mono fun e w' ⟨A, c, he, hR, hO, _, _, hb⟩ => ⟨A, c, he, hR, ?_, hb⟩
  obtain ⟨A2, c2, e2, _, h2, _⟩ := hO.rows
  cases e2
  exact h2
/-- what holds of the disk, the journal and the book between the steps -/
structure Jb (w0 : Nat) (w : World) (b k jb : Nat) (D : Pl.Dk) (J : Pl.Jn) (L : List Pl.En) (v : Value) : Prop where
  d : Dsk w b D
  j : Jnl w jb b J
  g : Pl.Goes D J
  own : w.ownsRow w0 72 4 v L.length (flt enL L)
  v : Pl.Vb L
  s : Pl.srt L = L
  im : J.im = Pl.encL L
  t : J.t ≤ k
  st : D.st ≤ k + 1
  fl : D.fl = 0
  lj : w0 ≤ jb
set_option maxRecDepth 100000 in
set_option maxHeartbeats 16000000 in
theorem law_topjournal (A : Option Addr) (l : List Pl.Ps) (c n : Nat) (hn : l.length = n) (w : World) (hL : PsIn w A l c) :
    Calls Try.prog 8 #[.slice A n c] w fun e w' => e = .returned (.bool true) ∧ Below w.heap.size w w' := by
  have hn63 : (n : Int) ≤ 9223372036854775807 := by have h1 := hL.cap; have h2 := hL.top; unfold maxLen at h2; omega
  have HL := Lib.hid hL
  have HN := Lib.hid hn
  clear hL hn
  by_cases h30 : 30 < n
  · have h30I : (30 : Int) < (n : Nat) := by omega
    go_enter Try.func8, Try.ntmps8
    go_wp2_with fail
    refine (keeping_b w).mono ?_
    rintro e w1 ⟨rfl, hb⟩
    go_wp2
    go_ret
    exact ⟨rfl, hb⟩
  have h30I : ¬ (30 : Int) < (n : Nat) := by omega
  have h00 : ((0 : Int) != 0) = false := by decide
  go_enter Try.func8, Try.ntmps8
  go_wp2_with fail
  refine (newdisk_any w).mono ?_
  rintro e w1 ⟨rfl, hD1, hB1⟩
  have HD1 : Hid (Dsk w1 w.heap.size Pl.dk0) := Lib.hid ⟨_, _, _, hD1⟩
  have hs1 := hB1.size
  have HB1 := Lib.hid hB1
  clear hD1 hB1
  have HO := Lib.hid (open_any HD1.out rfl)
  obtain ⟨b, hb⟩ : ∃ b, b = w.heap.size := ⟨_, rfl⟩
  rw [← hb] at HD1 HO ⊢
  have hbw : w.heap.size ≤ b := by omega
  clear hb
  go_wp2_with fail
  refine HO.out.mono ?_
  rintro e w2 ⟨rfl, hJ2, hb2⟩
  have HJB : Hid (Jb w.heap.size w2 b 0 w1.heap.size Pl.dk0 (Pl.opn Pl.dk0) [] (.slice none 0 0)) := Lib.hid ⟨HD1.out.below hb2, hJ2, Pl.goes0, World.ownsRow_nil _ _ _ _, Pl.jb_nil.1, Pl.jb_nil.2, by decide, by decide, by decide, rfl, hs1⟩
  have HB2 := Lib.hid (HB1.out.trans (hb2.mono hs1))
  clear HD1 HB1 hJ2 HO hb2 hs1
  generalize w1.heap.size = jb at *
  go_wp2
  go_loopw [4, 6, 30] (fun j v i wr => ∃ (k jb : Nat) (D : Pl.Dk) (J : Pl.Jn) (L : List Pl.En), k ≤ n ∧ j = ptr jb ∧ i = .int .i64 k ∧ Hid (Jb w.heap.size wr b k jb D J L v) ∧ Hid (Below w.heap.size w wr)) (fun _ _ i _ => n - (intOf i).toNat)
  case atStart => exact ⟨0, jb, _, _, _, Nat.zero_le _, rfl, rfl, HJB, HB2⟩
  case round =>
    clear HJB HB2
    obtain ⟨k, jb, D, J, L, hk, rfl, rfl, HJ, HB⟩ := hrel
    obtain ⟨wo, rfl⟩ : ∃ wo, wo = wr := ⟨_, rfl⟩
    by_cases hlt : k < n
    rotate_left
    · go_wp2_with fail
      refine (keeping_b _).mono ?_
      rintro e w9 ⟨rfl, hb9⟩
      have hB9 := HB.out.trans (hb9.mono HB.out.size)
      go_wp2
      go_ret
      exact ⟨rfl, hB9⟩
    have hltI : (k : Int) < (n : Nat) := by omega
    have hkx : k < l.length := by rw [HN.out]; exact hlt
    obtain ⟨bx, ox, rfl, hbx, hcx⟩ := HL.out.rows.open (by omega)
    have hr := row_at hbx hcx HB.out hkx
    clear hcx
    generalize l[k] = x at *
    clear hkx
    have hbP := (Below.refl wo.heap.size wo).alloc (Nat.le_refl _) (.cells (psA x) 74)
    have bP := Blk.new wo 74 (psA x)
    have rE : (wo.alloc (.cells (psA x) 74)).rangeAt wo.heap.size 0 (enL x.e) := fun i v hv => bP.range i v (by
      match i, hv with
      | 0, hv => exact hv
      | 1, hv => exact hv
      | 2, hv => exact hv
      | 3, hv => exact hv)
    obtain ⟨A6, c6, rfl, hR6, hc6, hm6⟩ := rows_of_owns encEn HJ.out.own
    have HAD := Lib.hid (add_any A6 L c6 _ rfl (by omega) x.e _ (hR6.below hbP))
    have hJ1 : Jb w.heap.size (wo.alloc (.cells (psA x) 74)) b k jb D J L (.slice A6 L.length c6) := ⟨HJ.out.d.below hbP, HJ.out.j.below hbP, HJ.out.g, own_keep HJ.out.own hbP, HJ.out.v, HJ.out.s, HJ.out.im, HJ.out.t, HJ.out.st, HJ.out.fl, HJ.out.lj⟩
    have HJ1 := Lib.hid hJ1
    have HBP := Lib.hid (HB.out.trans (hbP.mono HB.out.size))
    have HP := Lib.hid bP
    have hgw : w.heap.size ≤ wo.heap.size := HB.out.size
    have hPl := bP.lt
    clear hJ1 hR6 hc6 hm6 HJ HB bP hbP
    go_wp2_with (first | refine ldm_ps hr rfl _ rfl rfl ?_ | refine ldm_en (s := x.e) rE rfl _ rfl rfl ?_)
    clear hr rE
    generalize wo.alloc (.cells (psA x) 74) = W1 at *
    obtain ⟨p, hp⟩ : ∃ p, wo.heap.size = p := ⟨_, rfl⟩
    rw [hp] at HP hgw hPl ⊢
    clear hp
    have hbp : p ≠ b := by
      obtain ⟨cb, hcb⟩ : ∃ cs, Blk W1 b 39 cs := by obtain ⟨v0, v1, kp, h⟩ := HJ1.out.d; exact ⟨_, h.blk⟩
      intro e; subst e; exact absurd (HP.out.one hcb) (by decide)
    have hjp : p ≠ jb := by
      obtain ⟨cj, hcj⟩ : ∃ cs, Blk W1 jb 42 cs := by obtain ⟨v, h⟩ := HJ1.out.j; exact ⟨_, h.blk⟩
      intro e; subst e; exact absurd (HP.out.one hcj) (by decide)
    refine HAD.out.mono ?_
    rintro e w2 ⟨vN, rfl, hON, hb2⟩
    have HON := Lib.hid (own_mono hON HBP.out.size)
    have hJ2 : Jb w.heap.size w2 b k jb D J L (.slice A6 L.length c6) := ⟨HJ1.out.d.below hb2, HJ1.out.j.below hb2, HJ1.out.g, own_keep HJ1.out.own hb2, HJ1.out.v, HJ1.out.s, HJ1.out.im, HJ1.out.t, HJ1.out.st, HJ1.out.fl, HJ1.out.lj⟩
    have HJ2 := Lib.hid hJ2
    have HB2 := Lib.hid (HBP.out.trans (hb2.mono HBP.out.size))
    have HP2 := Lib.hid (HP.out.below hb2 hPl)
    obtain ⟨E, hE⟩ : ∃ E, Pl.adE L x.e = E := ⟨_, rfl⟩
    rw [hE]
    have HE := Lib.hid hE
    clear hJ2 hb2 hON HAD HJ1 HBP HP hPl hE
    by_cases hE0 : E = 0
    rotate_left
    · have hne : (E != 0) = true := by simpa using hE0
      go_wp2
      go_roundw
      case rel => exact ⟨k + 1, jb, D, J, L, by omega, rfl, by go_num, Lib.hid ⟨HJ2.out.d, HJ2.out.j, HJ2.out.g, HJ2.out.own, HJ2.out.v, HJ2.out.s, HJ2.out.im, by have := HJ2.out.t; omega, by have := HJ2.out.st; omega, HJ2.out.fl, HJ2.out.lj⟩, HB2⟩
      case measure => simp [intOf]; omega
    subst hE0
    have HNX := Lib.hid (Pl.jb_next HE.out)
    generalize Pl.adV L x.e = N at *
    obtain ⟨AN, cN, rfl, hRN, hcN, hmN⟩ := rows_of_owns encEn HON.out
    have HEN := Lib.hid (encode2_b AN N cN _ rfl (by omega) w2 hRN)
    rw [HNX.out.2.2.1, HNX.out.2.2.2] at HEN
    have hPl2 := HP2.out.lt
    clear hRN hcN hmN
    go_wp2_with fail
    refine HEN.out.mono ?_
    rintro e w3 ⟨vi, rfl, hOi, hb3⟩
    obtain ⟨Ai, ci, rfl, hRi, hci, hmi, hnili⟩ := rows_of8 hOi
    have HRi := Lib.hid hRi
    have hJ3 : Jb w.heap.size w3 b k jb D J L (.slice A6 L.length c6) := ⟨HJ2.out.d.below hb3, HJ2.out.j.below hb3, HJ2.out.g, own_keep HJ2.out.own hb3, HJ2.out.v, HJ2.out.s, HJ2.out.im, HJ2.out.t, HJ2.out.st, HJ2.out.fl, HJ2.out.lj⟩
    have HJ3 := Lib.hid hJ3
    have HON3 := Lib.hid (own_keep HON.out hb3)
    have HB3 := Lib.hid (HB2.out.trans (hb3.mono HB2.out.size))
    have bP3 := HP2.out.below hb3 hPl2
    have HP3 := Lib.hid bP3
    have hLs : w3.cell? ⟨p, 4, none⟩ = some (.bool x.ls) := bP3.cell 4
    have hKp : w3.cell? ⟨p, 5, none⟩ = some (.int .i64 x.kp) := bP3.cell 5
    have hbl : w.heap.size ≤ b := hbw
    have HIM : Hid ((Pl.encL N).length ≤ 2600) := Lib.hid (encL_le HNX.out.1)
    have HTT : Hid (J.t + 1 ≤ 2147483647) := Lib.hid (by have := HJ3.out.t; omega)
    clear hJ3 hOi hb3 hRi HEN HJ2 HON HB2 HP2 hPl2 bP3
    cases hls : x.ls with
    | true =>
      rw [hls] at hLs
      have HAR := Lib.hid (arm_one HJ3.out.d x.kp)
      go_wp2_with fail
      refine HAR.out.mono ?_
      rintro e w4 ⟨rfl, hD4, hF4⟩
      have HJ4 := Lib.hid (HJ3.out.j.frb HJ3.out.d hF4)
      have HRi4 := Lib.hid (HRi.out.apart hF4 HJ3.out.d.no)
      have HBK4 := Lib.hid (own_frt HJ3.out.own hF4 (dsk_e HJ3.out.d))
      have HON4 := Lib.hid (own_frt HON3.out hF4 (dsk_e HJ3.out.d))
      have HP4 := Lib.hid (HP3.out.fr hF4 (by simp [hbp]))
      have HB4 := Lib.hid (HB3.out.trans (hF4.below (B := w.heap.size) (by intro q hq; simp at hq; omega) HB3.out.size))
      have HD4 := Lib.hid hD4
      have hga := HJ3.out.g.arm 1 x.kp
      have hsv := save_any HJ4.out HD4.out Ai (Pl.encL N) _ ci rfl hci hmi hnili HRi4.out
      rw [hga.svE (by have := HIM.out; omega) HTT.out, if_pos (show (Pl.armD D 1 x.kp).fl = 1 from rfl)] at hsv
      have HSV := Lib.hid hsv
      have HLO := Lib.hid (hga.lost (l := Pl.encL N) (by have := HIM.out; omega) HTT.out rfl)
      have HTK := Lib.hid HJ3.out.t
      have HSTK := Lib.hid HJ3.out.st
      have HLV : Hid (Pl.Vb L ∧ Pl.srt L = L ∧ J.im = Pl.encL L) := Lib.hid ⟨HJ3.out.v, HJ3.out.s, HJ3.out.im⟩
      have hljb := HJ3.out.lj
      clear hD4 hF4 hga hsv hLs hKp HJ3 HON3 HB3 HP3 HRi HAR
      go_wp2_with fail
      refine HSV.out.mono ?_
      rintro e w5 ⟨rfl, hD5, hJ5, hF5⟩
      have HBK5 := Lib.hid (own_frt HBK4.out hF5 (dj_e HD4.out HJ4.out))
      have HON5 := Lib.hid (own_frt HON4.out hF5 (dj_e HD4.out HJ4.out))
      have bP5 := HP4.out.fr hF5 (by simp [hbp, hjp])
      have HP5 := Lib.hid bP5
      have qL5 : w5.cell? ⟨p, 4, none⟩ = some (.bool true) := by rw [← hls]; exact bP5.cell 4
      have HB5 := Lib.hid (HB4.out.trans (hF5.below (B := w.heap.size) (by intro q hq; simp at hq; omega) HB4.out.size))
      have HD5 := Lib.hid hD5
      have h91 : ((91 : Int) == 0) = false := by decide
      have HS5 : Hid ((Pl.rsD (Pl.svD (Pl.armD D 1 x.kp) J (Pl.encL N))).st = D.st + 1) := Lib.hid HLO.out.2.2.2.2.1
      have HRS := Lib.hid (restart_d HD5.out (by have h1 : (Pl.svD (Pl.armD D 1 x.kp) J (Pl.encL N)).st + 1 = D.st + 1 := HS5.out; have h2 := HSTK.out; omega))
      clear hD5 hJ5 hF5 HBK4 HON4 HP4 HB4 HD4 HJ4 HRi4 bP5 HSV
      go_wp2_with fail
      refine HRS.out.mono ?_
      rintro e wS ⟨rfl, hDS, hFS⟩
      have HBK := Lib.hid (own_frt HBK5.out hFS (dsk_e HD5.out))
      have HON := Lib.hid (own_frt HON5.out hFS (dsk_e HD5.out))
      have HP := Lib.hid (HP5.out.fr hFS (by simp [hbp]))
      have HB := Lib.hid (HB5.out.trans (hFS.below (B := w.heap.size) (by intro q hq; simp at hq; omega) HB5.out.size))
      have HDX := Lib.hid hDS
      clear hDS hFS HBK5 HON5 HP5 HB5 HD5 HRS qL5
      obtain ⟨_, _, _, hgx, hstx, hor⟩ := HLO.out
      have hfl : (Pl.rsD (Pl.svD (Pl.armD D 1 x.kp) J (Pl.encL N))).fl = 0 := rfl
      have hup : (Pl.rsD (Pl.svD (Pl.armD D 1 x.kp) J (Pl.encL N))).up = true := rfl
      have HGX := Lib.hid hgx
      have HLB : Hid (L.length ≤ 200) := Lib.hid HLV.out.1.len
      have hst : (Pl.rsD (Pl.svD (Pl.armD D 1 x.kp) J (Pl.encL N))).st ≤ k + 1 + 1 := by rw [HS5.out]; have := HSTK.out; omega
      clear hgx hstx HLO HS5
      generalize Pl.rsD (Pl.svD (Pl.armD D 1 x.kp) J (Pl.encL N)) = DX at *
      rcases hor with ⟨t1, t2⟩ | ⟨t1, t2⟩
      case' inl =>
        have himX : (Pl.opn DX).im = Pl.encL L := t2.trans HLV.out.2.2
        have ht : (Pl.opn DX).t ≤ k + 1 := by rw [t1]; have := HTK.out; omega
        clear t1 t2
        have HVX : Hid (Pl.Vb L ∧ Pl.srt L = L) := Lib.hid ⟨HLV.out.1, HLV.out.2.1⟩
        have HOP := Lib.hid (open_any HDX.out hup)
        go_wp2_with fail
        refine HOP.out.mono ?_
        rintro e wA ⟨rfl, hJA, hbA⟩
        have HDA := Lib.hid (HDX.out.below hbA)
        have HJA := Lib.hid hJA
        have HBKA := Lib.hid (own_keep HBK.out hbA)
        have HONA := Lib.hid (own_keep HON.out hbA)
        have HPA := Lib.hid (HP.out.below hbA HP.out.lt)
        have HBA := Lib.hid (HB.out.trans (hbA.mono HB.out.size))
        have hlj : w.heap.size ≤ wS.heap.size := HB.out.size
        clear hJA hbA HDX HBK HON HP HB HOP hup
        generalize wS.heap.size = ja at *
        have HIG := Lib.hid (image_x HJA.out himX HVX.out.1)
        go_wp2_with fail
        refine HIG.out.mono ?_
        rintro e wC ⟨AC, cC, rfl, hRC, hcC, hbC⟩
        have HDC := Lib.hid (HDA.out.below hbC)
        have HJC := Lib.hid (HJA.out.below hbC)
        have HBKC := Lib.hid (own_keep HBKA.out hbC)
        have HONC := Lib.hid (own_keep HONA.out hbC)
        have HPC := Lib.hid (HPA.out.below hbC HPA.out.lt)
        have HBC := Lib.hid (HBA.out.trans (hbC.mono HBA.out.size))
        have hde := decode2_b AC (Pl.encL L) cC _ rfl hcC wC hRC
        have hjd := Pl.jb_dec HVX.out.1 HVX.out.2
        rw [hjd.1, hjd.2.1] at hde
        have HDE := Lib.hid hde
        clear hde hjd hRC hcC hbC HDA HJA HBKA HONA HPA HBA HIG
        go_wp2_with fail
        refine HDE.out.mono ?_
        rintro e wD ⟨vF, rfl, hOF, hbD⟩
        have HDD := Lib.hid (HDC.out.below hbD)
        have HJD := Lib.hid (HJC.out.below hbD)
        have hBKD := own_keep HBKC.out hbD
        have hOND := own_keep HONC.out hbD
        have hPD := HPC.out.below hbD HPC.out.lt
        have HBD := Lib.hid (HBC.out.trans (hbD.mono HBC.out.size))
        have HOF := Lib.hid (own_mono hOF HBC.out.size)
        obtain ⟨AF, cF, rfl, hRF, _, _⟩ := rows_of_owns encEn hOF
        obtain ⟨AB2, cB2, eB, hRB, _, _⟩ := rows_of_owns encEn hBKD
        cases eB
        obtain ⟨AN2, cN2, eN, hRN2, _, _⟩ := rows_of_owns encEn hOND
        cases eN
        have hqL : wD.cell? ⟨p, 4, none⟩ = some (.bool x.ls) := hPD.cell 4
        rw [hls] at hqL
        have hPlt := hPD.lt
        obtain ⟨y, hy⟩ : ∃ y, decide (L = L) = y := ⟨_, rfl⟩
        have HSM := Lib.hid (dSame_b AF A6 L L cF c6 _ _ rfl rfl (by have := HVX.out.1.len; omega) (by have := HLB.out; omega) y hy wD hRF hRB)
        obtain rfl : y = true := by rw [← hy]; exact decide_eq_true rfl
        clear hy hqL hPD hRN2 hOND hBKD hRF hRB hOF hbD HDC HJC HBKC HONC HPC HBC HDE
        go_wp2_with fail
        refine HSM.out.mono ?_
        rintro e wE ⟨rfl, hbE⟩
        have HDE2 := Lib.hid (HDD.out.below hbE)
        have HJE2 := Lib.hid (HJD.out.below hbE)
        have HOF2 := Lib.hid (own_keep HOF.out hbE)
        have HBE2 := Lib.hid (HBD.out.trans (hbE.mono HBD.out.size))
        go_wp2
        go_roundw
        case rel => exact ⟨k + 1, ja, DX, Pl.opn DX, L, by omega, rfl, by go_num, Lib.hid ⟨HDE2.out, HJE2.out, HGX.out, HOF2.out, HVX.out.1, HVX.out.2, himX, ht, hst, hfl, hlj⟩, HBE2⟩
        case measure => simp [intOf]; omega
      case' inr =>
        have himX : (Pl.opn DX).im = Pl.encL N := t2
        have ht : (Pl.opn DX).t ≤ k + 1 := by rw [t1]; have := HTK.out; omega
        clear t1 t2
        have HVX : Hid (Pl.Vb N ∧ Pl.srt N = N) := Lib.hid ⟨HNX.out.1, HNX.out.2.1⟩
        have HOP := Lib.hid (open_any HDX.out hup)
        go_wp2_with fail
        refine HOP.out.mono ?_
        rintro e wA ⟨rfl, hJA, hbA⟩
        have HDA := Lib.hid (HDX.out.below hbA)
        have HJA := Lib.hid hJA
        have HBKA := Lib.hid (own_keep HBK.out hbA)
        have HONA := Lib.hid (own_keep HON.out hbA)
        have HPA := Lib.hid (HP.out.below hbA HP.out.lt)
        have HBA := Lib.hid (HB.out.trans (hbA.mono HB.out.size))
        have hlj : w.heap.size ≤ wS.heap.size := HB.out.size
        clear hJA hbA HDX HBK HON HP HB HOP hup
        generalize wS.heap.size = ja at *
        have HIG := Lib.hid (image_x HJA.out himX HVX.out.1)
        go_wp2_with fail
        refine HIG.out.mono ?_
        rintro e wC ⟨AC, cC, rfl, hRC, hcC, hbC⟩
        have HDC := Lib.hid (HDA.out.below hbC)
        have HJC := Lib.hid (HJA.out.below hbC)
        have HBKC := Lib.hid (own_keep HBKA.out hbC)
        have HONC := Lib.hid (own_keep HONA.out hbC)
        have HPC := Lib.hid (HPA.out.below hbC HPA.out.lt)
        have HBC := Lib.hid (HBA.out.trans (hbC.mono HBA.out.size))
        have hde := decode2_b AC (Pl.encL N) cC _ rfl hcC wC hRC
        have hjd := Pl.jb_dec HVX.out.1 HVX.out.2
        rw [hjd.1, hjd.2.1] at hde
        have HDE := Lib.hid hde
        clear hde hjd hRC hcC hbC HDA HJA HBKA HONA HPA HBA HIG
        go_wp2_with fail
        refine HDE.out.mono ?_
        rintro e wD ⟨vF, rfl, hOF, hbD⟩
        have HDD := Lib.hid (HDC.out.below hbD)
        have HJD := Lib.hid (HJC.out.below hbD)
        have hBKD := own_keep HBKC.out hbD
        have hOND := own_keep HONC.out hbD
        have hPD := HPC.out.below hbD HPC.out.lt
        have HBD := Lib.hid (HBC.out.trans (hbD.mono HBC.out.size))
        have HOF := Lib.hid (own_mono hOF HBC.out.size)
        obtain ⟨AF, cF, rfl, hRF, _, _⟩ := rows_of_owns encEn hOF
        obtain ⟨AB2, cB2, eB, hRB, _, _⟩ := rows_of_owns encEn hBKD
        cases eB
        obtain ⟨AN2, cN2, eN, hRN2, _, _⟩ := rows_of_owns encEn hOND
        cases eN
        have hqL : wD.cell? ⟨p, 4, none⟩ = some (.bool x.ls) := hPD.cell 4
        rw [hls] at hqL
        have hPlt := hPD.lt
        obtain ⟨y, hy⟩ : ∃ y, decide (N = L) = y := ⟨_, rfl⟩
        have HSM := Lib.hid (dSame_b AF A6 N L cF c6 _ _ rfl rfl (by have := HVX.out.1.len; omega) (by have := HLB.out; omega) y hy wD hRF hRB)
        have HSM2 := Lib.hid (fun s : Ext wD => dSame_b AF AN N N cF cN _ _ rfl rfl (by have := HVX.out.1.len; omega) (by have := HVX.out.1.len; omega) true (decide_eq_true rfl) s.w (hRF.below s.h) (hRN2.below s.h))
        clear hy hPD hRN2 hOND hBKD hRF hRB hOF hbD HDC HJC HBKC HONC HPC HBC HDE
        cases y with
        | true =>
          clear HSM2 hqL
          go_wp2_with fail
          refine HSM.out.mono ?_
          rintro e wE ⟨rfl, hbE⟩
          have HDE2 := Lib.hid (HDD.out.below hbE)
          have HJE2 := Lib.hid (HJD.out.below hbE)
          have HOF2 := Lib.hid (own_keep HOF.out hbE)
          have HBE2 := Lib.hid (HBD.out.trans (hbE.mono HBD.out.size))
          go_wp2
          go_roundw
          case rel => exact ⟨k + 1, ja, DX, Pl.opn DX, N, by omega, rfl, by go_num, Lib.hid ⟨HDE2.out, HJE2.out, HGX.out, HOF2.out, HVX.out.1, HVX.out.2, himX, ht, hst, hfl, hlj⟩, HBE2⟩
          case measure => simp [intOf]; omega
        | false =>
          go_wp2_with fail
          refine HSM.out.mono ?_
          rintro e wE1 ⟨rfl, hbE1⟩
          have hqE : wE1.cell? ⟨p, 4, none⟩ = some (.bool true) := (hbE1.cell (p := ⟨p, 4, none⟩) hPlt).trans hqL
          clear hqL
          go_wp2_with fail
          refine (HSM2.out ⟨wE1, hbE1⟩).mono ?_
          rintro e wE ⟨rfl, hbE2⟩
          have hbE : Below wD.heap.size wD wE := hbE1.trans (hbE2.mono hbE1.size)
          clear hbE1 hbE2 hqE
          have HDE2 := Lib.hid (HDD.out.below hbE)
          have HJE2 := Lib.hid (HJD.out.below hbE)
          have HOF2 := Lib.hid (own_keep HOF.out hbE)
          have HBE2 := Lib.hid (HBD.out.trans (hbE.mono HBD.out.size))
          go_wp2
          go_roundw
          case rel => exact ⟨k + 1, ja, DX, Pl.opn DX, N, by omega, rfl, by go_num, Lib.hid ⟨HDE2.out, HJE2.out, HGX.out, HOF2.out, HVX.out.1, HVX.out.2, himX, ht, hst, hfl, hlj⟩, HBE2⟩
          case measure => simp [intOf]; omega
    | false =>
      rw [hls] at hLs
      have hsv := save_any HJ3.out.j HJ3.out.d Ai (Pl.encL N) _ ci rfl hci hmi hnili HRi.out
      have hf1 : D.fl ≠ 1 := by rw [HJ3.out.fl]; decide
      have hok := HJ3.out.g.ok (l := Pl.encL N) (by have := HIM.out; omega) HTT.out hf1
      rw [HJ3.out.g.svE (by have := HIM.out; omega) HTT.out, if_neg hf1] at hsv
      have HSV := Lib.hid hsv
      have HOK := Lib.hid hok
      have HFL : Hid ((Pl.svD D J (Pl.encL N)).fl = 0) := Lib.hid (by
        have h := HJ3.out.fl
        unfold Pl.svD
        split
        · exact h
        · split
          · exact h
          · unfold Pl.wrD
            split
            · exact h
            · split
              · exact h
              · first
                | (show D.fl - 1 = 0; omega)
                | (split; (· rfl); (· show D.fl - 1 = 0; omega)))
      clear hsv hok hf1
      go_wp2_with fail
      refine HSV.out.mono ?_
      rintro e wS ⟨rfl, hDS, hJS, hFS⟩
      have HDX := Lib.hid hDS
      have HBK := Lib.hid (own_frt HON3.out hFS (dj_e HJ3.out.d HJ3.out.j))
      have HON := HBK
      have bPS := HP3.out.fr hFS (by simp [hbp, hjp])
      have HP := Lib.hid bPS
      have qLs : wS.cell? ⟨p, 4, none⟩ = some (.bool false) := by rw [← hls]; exact bPS.cell 4
      have HB := Lib.hid (HB3.out.trans (hFS.below (B := w.heap.size) (by intro q hq; simp at hq; have := HJ3.out.lj; omega) HB3.out.size))
      have HTK := Lib.hid HJ3.out.t
      have HSTK := Lib.hid HJ3.out.st
      obtain ⟨h1, h2, h3, h4⟩ := HOK.out
      obtain ⟨DX, hDX⟩ : ∃ DX, Pl.svD D J (Pl.encL N) = DX := ⟨_, rfl⟩
      rw [hDX] at h1 h4 HFL HDX
      have hga := Pl.goes_again h1
      have hup := h1.up
      have HGX := Lib.hid hga.1
      have himX : (Pl.opn DX).im = Pl.encL N := hga.2.2.trans h3
      have ht : (Pl.opn DX).t ≤ k + 1 := by rw [hga.2.1, h2]; have := HTK.out; omega
      have hst : DX.st ≤ k + 1 + 1 := by have := HSTK.out; omega
      have hfl := HFL.out
      have HLB : Hid (N.length ≤ 200) := Lib.hid HNX.out.1.len
      clear hDS hJS hFS hLs hKp HSV HOK HJ3 HON3 HB3 HP3 HRi bPS h1 h2 h3 h4 hDX hga HFL
      have HVX : Hid (Pl.Vb N ∧ Pl.srt N = N) := Lib.hid ⟨HNX.out.1, HNX.out.2.1⟩
      have HOP := Lib.hid (open_any HDX.out hup)
      go_wp2_with fail
      refine HOP.out.mono ?_
      rintro e wA ⟨rfl, hJA, hbA⟩
      have HDA := Lib.hid (HDX.out.below hbA)
      have HJA := Lib.hid hJA
      have HBKA := Lib.hid (own_keep HBK.out hbA)
      have HONA := Lib.hid (own_keep HON.out hbA)
      have HPA := Lib.hid (HP.out.below hbA HP.out.lt)
      have HBA := Lib.hid (HB.out.trans (hbA.mono HB.out.size))
      have hlj : w.heap.size ≤ wS.heap.size := HB.out.size
      clear hJA hbA HDX HBK HON HP HB HOP hup
      generalize wS.heap.size = ja at *
      have HIG := Lib.hid (image_x HJA.out himX HVX.out.1)
      go_wp2_with fail
      refine HIG.out.mono ?_
      rintro e wC ⟨AC, cC, rfl, hRC, hcC, hbC⟩
      have HDC := Lib.hid (HDA.out.below hbC)
      have HJC := Lib.hid (HJA.out.below hbC)
      have HBKC := Lib.hid (own_keep HBKA.out hbC)
      have HONC := Lib.hid (own_keep HONA.out hbC)
      have HPC := Lib.hid (HPA.out.below hbC HPA.out.lt)
      have HBC := Lib.hid (HBA.out.trans (hbC.mono HBA.out.size))
      have hde := decode2_b AC (Pl.encL N) cC _ rfl hcC wC hRC
      have hjd := Pl.jb_dec HVX.out.1 HVX.out.2
      rw [hjd.1, hjd.2.1] at hde
      have HDE := Lib.hid hde
      clear hde hjd hRC hcC hbC HDA HJA HBKA HONA HPA HBA HIG
      go_wp2_with fail
      refine HDE.out.mono ?_
      rintro e wD ⟨vF, rfl, hOF, hbD⟩
      have HDD := Lib.hid (HDC.out.below hbD)
      have HJD := Lib.hid (HJC.out.below hbD)
      have hBKD := own_keep HBKC.out hbD
      have hOND := own_keep HONC.out hbD
      have hPD := HPC.out.below hbD HPC.out.lt
      have HBD := Lib.hid (HBC.out.trans (hbD.mono HBC.out.size))
      have HOF := Lib.hid (own_mono hOF HBC.out.size)
      obtain ⟨AF, cF, rfl, hRF, _, _⟩ := rows_of_owns encEn hOF
      obtain ⟨AB2, cB2, eB, hRB, _, _⟩ := rows_of_owns encEn hBKD
      cases eB
      obtain ⟨AN2, cN2, eN, hRN2, _, _⟩ := rows_of_owns encEn hOND
      cases eN
      have hqL : wD.cell? ⟨p, 4, none⟩ = some (.bool x.ls) := hPD.cell 4
      rw [hls] at hqL
      have hPlt := hPD.lt
      obtain ⟨y, hy⟩ : ∃ y, decide (N = N) = y := ⟨_, rfl⟩
      have HSM := Lib.hid (dSame_b AF AN N N cF cN _ _ rfl rfl (by have := HVX.out.1.len; omega) (by have := HLB.out; omega) y hy wD hRF hRB)
      obtain rfl : y = true := by rw [← hy]; exact decide_eq_true rfl
      clear hy hqL hPD hRN2 hOND hBKD hRF hRB hOF hbD HDC HJC HBKC HONC HPC HBC HDE
      go_wp2_with fail
      refine HSM.out.mono ?_
      rintro e wE ⟨rfl, hbE⟩
      have HDE2 := Lib.hid (HDD.out.below hbE)
      have HJE2 := Lib.hid (HJD.out.below hbE)
      have HOF2 := Lib.hid (own_keep HOF.out hbE)
      have HBE2 := Lib.hid (HBD.out.trans (hbE.mono HBD.out.size))
      go_wp2
      go_roundw
      case rel => exact ⟨k + 1, ja, DX, Pl.opn DX, N, by omega, rfl, by go_num, Lib.hid ⟨HDE2.out, HJE2.out, HGX.out, HOF2.out, HVX.out.1, HVX.out.2, himX, ht, hst, hfl, hlj⟩, HBE2⟩
      case measure => simp [intOf]; omega
end Go.Proofs.Ytalfffkcmddakab
