/- LedgerKept. -/
import Derived.Test.YtalfffkcmddakabK9
import Derived.Test.YtalfffkcmddakabR10
namespace Go.Proofs.Ytalfffkcmddakab
open Go.RowKit Go.Shelf

theorem dk_spoil {S : List Nat} {w w' : World} {z : Nat} {D : Pl.Dk} {v0 v1 : Value} {kp : Int} (h : IsDk w z D v0 v1 kp) (hf : Fr S w w') (hz : z ∉ S) (h0 : ∀ g, v0.ownBlock = some g → g ∉ S) (h1 : ∀ g, v1.ownBlock = some g → g ∉ S) : IsDk w' z D v0 v1 kp :=
  ⟨h.blk.fr hf hz, h.kp, own_frg h.o0 hf h0, own_frg h.o1 hf h1, h.st, h.fb⟩
theorem jn_spoil {S : List Nat} {w w' : World} {j z : Nat} {J : Pl.Jn} {v : Value} (h : IsJn w j z J v) (hf : Fr S w w') (hj : j ∉ S) (h0 : ∀ g, v.ownBlock = some g → g ∉ S) : IsJn w' j z J v :=
  ⟨h.blk.fr hf hj, own_frg h.o hf h0, h.t⟩
theorem fr_new {B n : Nat} {v : Value} {xs : List Value} {w w' : World} (h : w.ownsRow B 5 1 v n xs) (hf : Fr v.ownBlock.toList w w') (hB : B ≤ w.heap.size) : Below B w w' :=
  hf.below (fun k hk => (h.lt k (by simpa using hk)).1) hB
theorem own_at {B n : Nat} {v : Value} {xs : List Value} {w : World} (h : w.ownsRow B 5 1 v n xs) : ∀ g, g ∈ v.ownBlock.toList → B ≤ g ∧ g < w.heap.size := fun g hg => h.lt g (by simpa using hg)
theorem own_blk {B n g : Nat} {v : Value} {xs : List Value} {w : World} {t : TypeId} {cs : Array Value} (h : w.ownsRow B 5 1 v n xs) (hb : Blk w g t cs) (ht : t ≠ 5) : ∀ g', v.ownBlock = some g' → g' ≠ g := fun g' e hgg => by
  subst hgg
  rcases h.2 with ⟨rfl, _⟩ | ⟨g2, cap, cur, rfl, _, hg, _⟩
  · cases e
  · cases e
    exact ht (hb.one (show Blk w g2 5 cur from hg))
set_option maxRecDepth 100000 in
set_option maxHeartbeats 16000000 in
theorem law_kept (A : Option Addr) (im : Pl.Bs) (c n : Nat) (hn : im.length = n) (B : Option Addr) (bs : Pl.Bs) (d m : Nat) (hm : bs.length = m) (w : World) (hA : InB w A im c) (hB : InB w B bs d) :
    Calls Try.prog 7 #[.slice A n c, .slice B m d] w fun e w' => e = .returned (.bool true) ∧ Below w.heap.size w w' := by
  have hn63 : (n : Int) ≤ 9223372036854775807 := by have h1 := hA.cap; have h2 := hA.top; unfold maxLen at h2; omega
  have hm63 : (m : Int) ≤ 9223372036854775807 := by have h1 := hB.cap; have h2 := hB.top; unfold maxLen at h2; omega
  have HA := Lib.hid hA
  have HBB := Lib.hid hB
  have HNILim := Lib.hid hA.nil
  have HNILbs := Lib.hid hB.nil
  have HN := Lib.hid hn
  have HM := Lib.hid hm
  clear hA hB hn hm
  by_cases h4 : 400 < n
  · have h4I : (400 : Int) < (n : Nat) := by omega
    go_enter Try.func7, Try.ntmps7
    go_wp2_with fail
    refine (awake_any w).mono ?_
    rintro e w1 ⟨rfl, hb⟩
    go_wp2
    go_ret
    exact ⟨rfl, hb⟩
  have h4I : ¬ (400 : Int) < (n : Nat) := by omega
  by_cases h5 : 400 < m
  · have h5I : (400 : Int) < (m : Nat) := by omega
    go_enter Try.func7, Try.ntmps7
    go_wp2_with fail
    refine (awake_any w).mono ?_
    rintro e w1 ⟨rfl, hb⟩
    go_wp2
    go_ret
    exact ⟨rfl, hb⟩
  have h5I : ¬ (400 : Int) < (m : Nat) := by omega
  have h00 : ((0 : Int) != 0) = false := by decide
  go_enter Try.func7, Try.ntmps7
  go_wp2_with fail
  refine (newdisk_any w).mono ?_
  rintro e w1 ⟨rfl, hD1, hB1⟩
  have HD1 := Lib.hid hD1
  have HB1 := Lib.hid hB1
  have HO := Lib.hid (open_any ⟨_, _, _, hD1⟩ rfl)
  have hs1 := hB1.size
  clear hD1 hB1
  go_wp2_with fail
  refine HO.out.mono ?_
  rintro e w2 ⟨rfl, hJ2, hb2⟩
  have HD2 := Lib.hid (HD1.out.below hb2)
  have HB2 := Lib.hid (HB1.out.trans (hb2.mono hs1))
  have hs2 := hb2.size
  obtain ⟨v2, hJ2⟩ := hJ2
  have HJ2 := Lib.hid hJ2
  have HI2 := Lib.hid (HA.out.below HB2.out)
  have HS2 := Lib.hid (HBB.out.below HB2.out)
  have HW := Lib.hid (Nat.le_trans hs1 hs2)
  obtain ⟨z, hz⟩ : ∃ z, w.heap.size = z := ⟨_, rfl⟩
  obtain ⟨j, hj⟩ : ∃ j, w1.heap.size = j := ⟨_, rfl⟩
  have HZ := Lib.hid hz
  have HJW : Hid (w.heap.size ≤ j) := Lib.hid (by omega)
  rw [hz] at HD1 HD2 HJ2 ⊢
  rw [hj] at HJ2 ⊢
  have hzl := HD2.out.blk.lt
  have hjl := HJ2.out.blk.lt
  clear hJ2 hb2 HO HD1 HB1 hs1 hs2 hz hj
  have ho0 := own0 w2
  have hba := (Below.refl _ w2).alloc (Nat.le_refl _) (.cells #[] 5)
  have hRa := Lib.hid ((HI2.out.rows).below hba)
  go_wp2_with (at_builtin
               go_loud (refine wpList_app8 rfl _ _ rfl w2.heap.size _ 0 _ rfl ho0 hba.size A im n c HN.out rfl hRa.out HNILim.out (by omega) ?_)
               (intro vq wq hOq hbq
                have HOq := Lib.hid hOq
                obtain ⟨Aq, cq, rfl, hRq, hcq, hmq⟩ := rows_ownr (l := im) ((HN.out).trans (Nat.zero_add _).symm) hOq
                have HRq := Lib.hid hRq
                clear hOq hRq))
  obtain ⟨w3, rfl⟩ : ∃ w3, w3 = wq := ⟨_, rfl⟩
  obtain ⟨A3, rfl⟩ : ∃ A3, A3 = Aq := ⟨_, rfl⟩
  obtain ⟨c3, rfl⟩ : ∃ c3, c3 = cq := ⟨_, rfl⟩
  have hoq := HOq.out
  rw [Nat.zero_add] at hoq
  have HO3 := Lib.hid hoq
  have HR3 := Lib.hid HRq.out
  have hnil3 : A3 = none → c3 = 0 := fun h => by
    subst h
    rcases HO3.out with ⟨_, ⟨h, _⟩ | ⟨g, cap, cur, h, _⟩⟩
    · injection h
    · cases h
  have hbb3 := hba.trans hbq
  clear hoq HOq HRq hbq hba ho0 hRa
  have HD3 := Lib.hid (HD2.out.below hbb3)
  have HJ3 := Lib.hid (HJ2.out.below hbb3)
  have HB3 := Lib.hid (HB2.out.trans (hbb3.mono HW.out))
  have hs3 := hbb3.size
  have hlim : Pl.lim (Pl.opn Pl.dk0) im = false := by
    unfold Pl.lim
    rw [Bool.or_eq_false_iff, decide_eq_false_iff_not, decide_eq_false_iff_not]
    exact ⟨by have := HN.out; omega, by decide⟩
  have e1 : Pl.svD Pl.dk0 (Pl.opn Pl.dk0) im = ⟨1, true, [], Pl.cod im 1, 0, 0⟩ := by
    unfold Pl.svD
    rw [hlim]; rfl
  have e2 : Pl.svJ Pl.dk0 (Pl.opn Pl.dk0) im = ⟨1, im, 1, false⟩ := by
    unfold Pl.svJ
    rw [hlim]; rfl
  have hsv := (save_kept HJ3.out HD3.out rfl (by decide) rfl A3 im n c3 HN.out (by omega) hnil3 HR3.out rfl hlim)
  rw [e1, e2] at hsv
  have HSV := Lib.hid hsv
  clear hsv e1 e2 hlim hbb3 HB2 HI2 HS2 HR3
  refine HSV.out.mono ?_
  rintro e w4 ⟨rfl, ⟨u1, kp, u, hD4, hJ4, hO1, hO2⟩, hF4⟩
  have hown3 := Own8.fr (w := w3) (w' := w4) (S := [z, j]) (v := .slice A3 n c3) (l := im) (by
    have := own_mono HO3.out (Nat.zero_le _)
    rw [← HN.out] at this ⊢
    exact this) hF4 (at2 HD3.out.blk HJ3.out.blk tDk tJn)
  have HSP := Lib.hid (spoil_own (n := n) (B := 0) (v := .slice A3 n c3) (l := im) (w := w4) (by have := HN.out; omega) (by omega) (by
    unfold Own8 at hown3
    rw [HN.out] at hown3
    exact hown3))
  have HG3 := Lib.hid (fun g (h : g ∈ (Value.slice A3 n c3).ownBlock.toList) => own_at HO3.out g h)
  have HB4 := Lib.hid (HB3.out.trans (hF4.below (B := w.heap.size) (by intro k hk; have := HZ.out; have := HJW.out; simp at hk; omega) (by have := HW.out; omega)))
  have HD4 := Lib.hid hD4
  have HJ4 := Lib.hid hJ4
  have HO1 := Lib.hid hO1
  have HO2 := Lib.hid hO2
  have hs4 := hF4.size
  clear hD4 hJ4 hO1 hO2 hF4 hown3 HSV HO3 HD3 HJ3 HB3
  go_wp2_with fail
  refine HSP.out.mono ?_
  rintro e w5 ⟨rfl, hF5⟩
  have h23 : w2.heap.size ≤ w3.heap.size := hs3
  have hG3 := HG3.out
  have z3 : z ∉ (Value.slice A3 n c3).ownBlock.toList := fun h => by have := (hG3 z h).1; omega
  have j3 : j ∉ (Value.slice A3 n c3).ownBlock.toList := fun h => by have := (hG3 j h).1; omega
  have HL1 := Lib.hid (fun g (e : u1.ownBlock = some g) => HO1.out.lt g e)
  have HL2 := Lib.hid (fun g (e : u.ownBlock = some g) => HO2.out.lt g e)
  have HD5 := Lib.hid (dk_spoil HD4.out hF5 z3 (fun g e => by cases e) (fun g e h => by have := HL1.out g e; have := hG3 g h; omega))
  have HJ5 := Lib.hid (jn_spoil HJ4.out hF5 j3 (fun g e h => by have := HL2.out g e; have := hG3 g h; omega))
  have HB5 := Lib.hid (HB4.out.trans (hF5.below (B := w.heap.size) (fun k hk => by have := (hG3 k hk).1; have := HW.out; omega) (by have := HW.out; omega)))
  have hs5 := hF5.size
  have HIM := Lib.hid (image_any HJ5.out (by show im.length ≤ 100000; have := HN.out; omega))
  clear hF5 z3 j3 hG3 HG3 HD4 HJ4 HO1 HO2 HB4 HSP
  go_wp2_with fail
  refine HIM.out.mono ?_
  rintro e w6 ⟨A6, c6, rfl, _, hO6, _, hl6, hb6⟩
  have hO6' : w6.ownsRow 0 5 1 (.slice A6 im.length c6) n (flt u8L im) := by
    have := hO6
    unfold Own8 at this
    rw [← HN.out]
    exact this
  have HSP := Lib.hid (spoil_own HN.out (by omega) hO6')
  have HL6 := Lib.hid (fun g (e : g ∈ (Value.slice A6 im.length c6).ownBlock.toList) => (show w5.heap.size ≤ g from by
    cases A6 with
    | none => cases e
    | some a =>
      have e2 : g = a.block := by simpa [Value.ownBlock] using e
      obtain ⟨ab, ao, asp⟩ := a
      have hh := hO6'
      rcases hh.2 with ⟨h, _⟩ | ⟨g', cap, cur, h, _⟩
      · cases h
      · cases h
        rw [e2]
        exact hl6 _ _ rfl))
  have HB6 := Lib.hid hb6
  clear hO6 hO6' hl6 hb6 HIM
  go_wp2_with fail
  refine HSP.out.mono ?_
  rintro e w7 ⟨rfl, hF7⟩
  have hb57 : Below w5.heap.size w5 w7 := HB6.out.trans (hF7.below HL6.out HB6.out.size)
  have HD7 := Lib.hid (HD5.out.below hb57)
  have HJ7 := Lib.hid (HJ5.out.below hb57)
  have HB7 := Lib.hid (HB5.out.trans (hb57.mono (by have := HW.out; omega)))
  have hs7 := hb57.size
  have HS7 := Lib.hid (HBB.out.below HB7.out)
  clear hb57 hF7 HD5 HJ5 HB5 HB6 HL6 HSP
  have ho0 := own0 w7
  have hba := (Below.refl _ w7).alloc (Nat.le_refl _) (.cells #[] 5)
  have hRa := Lib.hid ((HS7.out.rows).below hba)
  go_wp2_with (at_builtin
               go_loud (refine wpList_app8 rfl _ _ rfl w7.heap.size _ 0 _ rfl ho0 hba.size B bs m d HM.out rfl hRa.out HNILbs.out (by omega) ?_)
               (intro vq wq hOq hbq
                have HOq := Lib.hid hOq
                obtain ⟨Aq, cq, rfl, hRq, hcq, hmq⟩ := rows_ownr (l := bs) ((HM.out).trans (Nat.zero_add _).symm) hOq
                have HRq := Lib.hid hRq
                clear hOq hRq))
  obtain ⟨w8, rfl⟩ : ∃ w8, w8 = wq := ⟨_, rfl⟩
  obtain ⟨A8, rfl⟩ : ∃ A8, A8 = Aq := ⟨_, rfl⟩
  obtain ⟨c8, rfl⟩ : ∃ c8, c8 = cq := ⟨_, rfl⟩
  have hoq := HOq.out
  rw [Nat.zero_add] at hoq
  have HO8 := Lib.hid hoq
  have HR8 := Lib.hid HRq.out
  have hnil8 : A8 = none → c8 = 0 := fun h => by
    subst h
    rcases HO8.out with ⟨_, ⟨h, _⟩ | ⟨g, cap, cur, h, _⟩⟩
    · injection h
    · cases h
  have hbb8 := hba.trans hbq
  clear hoq HOq HRq hbq hba ho0 hRa
  have HD8 := Lib.hid (HD7.out.below hbb8)
  have HJ8 := Lib.hid (HJ7.out.below hbb8)
  have HB8 := Lib.hid (HB7.out.trans (hbb8.mono (by have := HW.out; omega)))
  have hs8 := hbb8.size
  have HWR := Lib.hid (wr_kept0 HD8.out rfl (show (0 : Nat) ≠ 1 by decide) A8 bs m c8 HM.out (by omega) HR8.out)
  clear hbb8 HD7 HJ7 HB7 HS7 HR8
  go_wp2_with fail
  refine HWR.out.mono ?_
  rintro e w9 ⟨rfl, ⟨u0, kp9, hD9, hO9⟩, hF9⟩
  have hown9 := Own8.fr (w := w8) (w' := w9) (S := [z]) (v := .slice A8 m c8) (l := bs) (by
    have := own_mono HO8.out (Nat.zero_le _)
    rw [← HM.out] at this ⊢
    exact this) hF9 HD8.out.at_
  have HSP := Lib.hid (spoil_own (n := m) (B := 0) (v := .slice A8 m c8) (l := bs) (w := w9) HM.out (by omega) (by
    unfold Own8 at hown9
    rw [HM.out] at hown9
    exact hown9))
  have HG8 := Lib.hid (fun g (h : g ∈ (Value.slice A8 m c8).ownBlock.toList) => own_at HO8.out g h)
  have HD9 := Lib.hid hD9
  have HJ9 := Lib.hid (HJ8.out.fr hF9 (by have := HJ8.out.ne HD8.out; simpa using this) HD8.out.at_)
  have HL0 := Lib.hid (fun g (e : u0.ownBlock = some g) => hO9.lt g e)
  have HB9 := Lib.hid (HB8.out.trans (hF9.below (B := w.heap.size) (by intro k hk; have := HZ.out; simp at hk; omega) (by have := HW.out; omega)))
  have hs9 := hF9.size
  clear hD9 hO9 hF9 hown9 HWR HO8 HD8 HJ8 HB8
  go_wp2_with fail
  refine HSP.out.mono ?_
  rintro e w10 ⟨rfl, hF10⟩
  have hG8 := HG8.out
  have HD10 := Lib.hid (dk_spoil HD9.out hF10 (fun h => by have := (hG8 z h).1; omega) (fun g e h => by have := HL0.out g e; have := hG8 g h; omega) (fun g e h => by have := HL1.out g e; have := hG8 g h; omega))
  have HJ10 := Lib.hid (jn_spoil HJ9.out hF10 (fun h => by have := (hG8 j h).1; omega) (fun g e h => by have := HL2.out g e; have := hG8 g h; omega))
  have HB10 := Lib.hid (HB9.out.trans (hF10.below (B := w.heap.size) (fun k hk => by have := (hG8 k hk).1; have := HW.out; omega) (by have := HW.out; omega)))
  have hs10 := hF10.size
  have hW10 : w.heap.size ≤ w10.heap.size := by have := HW.out; omega
  have HRD := Lib.hid (dread_kept HD10.out rfl (by show bs.length ≤ 100000; have := HM.out; omega))
  clear hF10 hG8 HG8 HD9 HJ9 HB9 HSP
  go_wp2_with fail
  refine HRD.out.mono ?_
  rintro e w11 ⟨x, rfl, hO11, hb11⟩
  have hO11 : w11.ownsRow w10.heap.size 5 1 x bs.length (flt u8L bs) := hO11
  have HSP := Lib.hid (spoil_own rfl (by have := HM.out; omega) hO11)
  have HO11 := Lib.hid hO11
  have HB11 := Lib.hid hb11
  clear hO11 hb11 HRD
  go_wp2_with fail
  refine HSP.out.mono ?_
  rintro e w12 ⟨rfl, hF12⟩
  have hb12 := HB11.out.trans (fr_new HO11.out hF12 HB11.out.size)
  have HD12 := Lib.hid (HD10.out.below hb12)
  have HJ12 := Lib.hid (HJ10.out.below hb12)
  have HB12 := Lib.hid (HB10.out.trans (hb12.mono hW10))
  have hW12 : w.heap.size ≤ w12.heap.size := Nat.le_trans hW10 hb12.size
  have HRD := Lib.hid (dread_kept HD12.out rfl (by show bs.length ≤ 100000; have := HM.out; omega))
  clear hb12 hF12 HD10 HJ10 HB10 HSP HO11 HB11
  go_wp2_with fail
  refine HRD.out.mono ?_
  rintro e w13 ⟨y, rfl, hO13, hb13⟩
  have hO13 : w13.ownsRow w12.heap.size 5 1 y bs.length (flt u8L bs) := hO13
  obtain ⟨Ay, cy, rfl, hRy, _, _⟩ := rows_of_owns encU8 hO13
  have hJ13 := HJ12.out.below hb13
  have HB13 := Lib.hid (HB12.out.trans (hb13.mono hW12))
  have hW13 : w.heap.size ≤ w13.heap.size := Nat.le_trans hW12 hb13.size
  have HIM := Lib.hid (fun s : Ext w13 => image_any (hJ13.below s.h) (by show im.length ≤ 100000; have := HN.out; omega))
  have cvy := fun s : Ext w13 => conv_rows (hRy.below s.h) bs.length cy rfl
  have cvb := fun s : Ext w13 => conv_rows (HBB.out.below (HB13.out.trans (s.h.mono hW13))).rows m d HM.out
  have cvi := fun s : Ext w13 => conv_rows (HA.out.below (HB13.out.trans (s.h.mono hW13))).rows n c HN.out
  have HCV := Lib.hid (fun (W : World) (A : Option Addr) (k c : Nat) (hR : Rows u8L 1 W A im) (hn : im.length = k) => conv_rows hR k c hn)
  have HAW := Lib.hid (fun s : Ext w13 => awake_any s.w)
  have hbb : ((str bs).toList == (str bs).toList) = true := by simp
  have hii : ((str im).toList == (str im).toList) = true := by simp
  clear hO13 hJ13 hRy hb13 HD12 HJ12 HB12 HRD
  generalize str bs = Zb at *
  generalize str im = Zi at *
  generalize bs.length = lb at *
  generalize him : im.length = li at *
  go_wp2
  refine wp_region_held (S := fun W => ∃ s : Ext w13, W = s.w) (by kernel_rfl) ?_
  change wpAnyH _ _ _ _ _ _ _ _ (World.drew _)
  have hS : ∃ s : Ext w13, w13.drew = s.w := ⟨⟨_, (Below.refl _ _).drew⟩, rfl⟩
  generalize w13.drew = W0 at *
  refine takeD (i := 0) (d := some 62) (v := ?_) rfl rfl (by kernel_rfl) (by decide +kernel) (by decide +kernel) (fun _ _ _ h => h) (Or.inl ⟨by first | kernel_rfl | rfl, ?_⟩) hS ?_
  rotate_left
  · intro w' hT; obtain ⟨s, rfl⟩ := hT; have c1 := cvy s; have c2 := cvb s; have c3 := cvi s; first | (go_simp; done) | (go_simp; with_reducible rfl)
  refine takeD (i := 1) (d := some 63) (v := ?_) rfl rfl (by kernel_rfl) (by decide +kernel) (by decide +kernel) (fun _ _ _ h => h) (Or.inl ⟨by first | kernel_rfl | rfl, ?_⟩) hS ?_
  rotate_left
  · intro w' hT; obtain ⟨s, rfl⟩ := hT; have c1 := cvy s; have c2 := cvb s; have c3 := cvi s; first | (go_simp; done) | (go_simp; with_reducible rfl)
  refine takeD (i := 2) (d := some 64) (v := ?_) rfl rfl (by kernel_rfl) (by decide +kernel) (by decide +kernel) (fun _ _ _ h => h) (Or.inl ⟨by first | kernel_rfl | rfl, ?_⟩) hS ?_
  rotate_left
  · intro w' hT; obtain ⟨s, rfl⟩ := hT; have c1 := cvy s; have c2 := cvb s; have c3 := cvi s; first | (go_simp; done) | (go_simp; with_reducible rfl)
  refine takeD (i := 3) (d := some 65) (v := ?_) rfl rfl (by kernel_rfl) (by decide +kernel) (by decide +kernel) (fun _ _ _ h => h) (Or.inl ⟨by first | kernel_rfl | rfl, ?_⟩) hS ?_
  rotate_left
  · intro w' hT; obtain ⟨s, rfl⟩ := hT; have c1 := cvy s; have c2 := cvb s; have c3 := cvi s; first | (go_simp; done) | (go_simp; with_reducible rfl)
  refine takeD (i := 4) (d := some 66) (v := ?_) rfl rfl (by kernel_rfl) (by decide +kernel) (by decide +kernel) (fun _ _ _ h => h) (Or.inl ⟨by first | kernel_rfl | rfl, ?_⟩) hS ?_
  rotate_left
  · intro w' hT; obtain ⟨s, rfl⟩ := hT; have c1 := cvy s; have c2 := cvb s; have c3 := cvi s; first | (go_simp; done) | (go_simp; with_reducible rfl)
  refine takeD (i := 5) (d := some 67) (v := ?_) rfl rfl (by kernel_rfl) (by decide +kernel) (by decide +kernel) (fun _ _ _ h => h) (Or.inl ⟨by first | kernel_rfl | rfl, ?_⟩) hS ?_
  rotate_left
  · intro w' hT; obtain ⟨s, rfl⟩ := hT; have c1 := cvy s; have c2 := cvb s; have c3 := cvi s; first | (go_simp; done) | (go_simp; with_reducible rfl)
  refine takeD (i := 6) (d := some 68) (v := ?_) rfl rfl (by kernel_rfl) (by decide +kernel) (by decide +kernel) (fun _ _ _ h => h) (Or.inl ⟨by first | kernel_rfl | rfl, ?_⟩) hS ?_
  rotate_left
  · intro w' hT; obtain ⟨s, rfl⟩ := hT; have c1 := cvy s; have c2 := cvb s; have c3 := cvi s; first | (go_simp; done) | (go_simp; with_reducible rfl)
  refine takeD (i := 7) (d := some 69) (v := ?_) rfl rfl (by kernel_rfl) (by decide +kernel) (by decide +kernel) (fun _ _ _ h => h) (Or.inl ⟨by first | kernel_rfl | rfl, ?_⟩) hS ?_
  rotate_left
  · intro w' hT; obtain ⟨s, rfl⟩ := hT; have c1 := cvy s; have c2 := cvb s; have c3 := cvi s; first | (go_simp; done) | (go_simp; with_reducible rfl)
  refine takeD (i := 8) (d := some 70) (v := ?_) rfl rfl (by kernel_rfl) (by decide +kernel) (by decide +kernel) (fun _ _ _ h => h) (Or.inl ⟨by first | kernel_rfl | rfl, ?_⟩) hS ?_
  rotate_left
  · intro w' hT; obtain ⟨s, rfl⟩ := hT; have c1 := cvy s; have c2 := cvb s; have c3 := cvi s; first | (go_simp; done) | (go_simp; with_reducible rfl)
  refine takeD (i := 9) (d := some 71) (v := ?_) rfl rfl (by kernel_rfl) (by decide +kernel) (by decide +kernel) (fun _ _ _ h => h) (Or.inl ⟨by first | kernel_rfl | rfl, ?_⟩) hS ?_
  rotate_left
  · intro w' hT; obtain ⟨s, rfl⟩ := hT; have c1 := cvy s; have c2 := cvb s; have c3 := cvi s; first | (go_simp; done) | (go_simp; with_reducible rfl)
  refine takeD (i := 10) (d := some 72) (v := ?_) rfl rfl (by kernel_rfl) (by decide +kernel) (by decide +kernel) (fun _ _ _ h => h) (Or.inl ⟨by first | kernel_rfl | rfl, ?_⟩) hS ?_
  rotate_left
  · intro w' hT; obtain ⟨s, rfl⟩ := hT; have c1 := cvy s; have c2 := cvb s; have c3 := cvi s; first | (go_simp; done) | (go_simp; with_reducible rfl)
  refine takeD (i := 11) (d := some 73) (v := ?_) rfl rfl (by kernel_rfl) (by decide +kernel) (by decide +kernel) (fun _ _ _ h => h) (Or.inl ⟨by first | kernel_rfl | rfl, ?_⟩) hS ?_
  rotate_left
  · intro w' hT; obtain ⟨s, rfl⟩ := hT; have c1 := cvy s; have c2 := cvb s; have c3 := cvi s; first | (go_simp; done) | (go_simp; with_reducible rfl)
  refine takeD (i := 12) (d := some 74) (v := ?_) rfl rfl (by kernel_rfl) (by decide +kernel) (by decide +kernel) (fun _ _ _ h => h) (Or.inl ⟨by first | kernel_rfl | rfl, ?_⟩) hS ?_
  rotate_left
  · intro w' hT; obtain ⟨s, rfl⟩ := hT; have c1 := cvy s; have c2 := cvb s; have c3 := cvi s; first | (go_simp; done) | (go_simp; with_reducible rfl)
  refine takeD (i := 13) (d := some 75) (v := ?_) rfl rfl (by kernel_rfl) (by decide +kernel) (by decide +kernel) (fun _ _ _ h => h) (Or.inl ⟨by first | kernel_rfl | rfl, ?_⟩) hS ?_
  rotate_left
  · intro w' hT; obtain ⟨s, rfl⟩ := hT; have c1 := cvy s; have c2 := cvb s; have c3 := cvi s; first | (go_simp; done) | (go_simp; with_reducible rfl)
  refine takeD (i := 14) (d := some 76) (v := ?_) rfl rfl (by kernel_rfl) (by decide +kernel) (by decide +kernel) (fun _ _ _ h => h) (Or.inl ⟨by first | kernel_rfl | rfl, ?_⟩) hS ?_
  rotate_left
  · intro w' hT; obtain ⟨s, rfl⟩ := hT; have c1 := cvy s; have c2 := cvb s; have c3 := cvi s; first | (go_simp; done) | (go_simp; with_reducible rfl)
  refine takeD (i := 17) (d := some 79) (v := ?_) rfl rfl (by kernel_rfl) (by decide +kernel) (by decide +kernel) (fun _ _ _ h => h) (Or.inl ⟨by first | kernel_rfl | rfl, ?_⟩) hS ?_
  rotate_left
  · intro w' hT; obtain ⟨s, rfl⟩ := hT; have c1 := cvy s; have c2 := cvb s; have c3 := cvi s; first | (go_simp; done) | (go_simp; with_reducible rfl)
  refine takeD (i := 18) (d := some 80) (v := ?_) rfl rfl (by kernel_rfl) (by decide +kernel) (by decide +kernel) (fun _ _ _ h => h) (Or.inl ⟨by first | kernel_rfl | rfl, ?_⟩) hS ?_
  rotate_left
  · intro w' hT; obtain ⟨s, rfl⟩ := hT; have c1 := cvy s; have c2 := cvb s; have c3 := cvi s; first | (go_simp; done) | (go_simp; with_reducible rfl)
  refine actNorm (fun a' ha => ?_)
  simp [go_sem] at ha
  subst ha
  refine wpAnyH_all (rs := [15]) (by decide +kernel) (by simp) ?_
  intro i0 hi0
  have hi1 := List.mem_singleton.1 hi0
  clear hi0
  subst hi1
  refine wpOp_go rfl (by kernel_rfl) (fun K hK => ?_)
  go_simp
  obtain ⟨s0, rfl⟩ := hS
  refine (HIM.out s0).mono ?_
  rintro e w15 ⟨A15, c15, rfl, hR15, _, _, _, hb15⟩
  have hR15 : Rows u8L 1 w15 A15 im := hR15
  have hS2 : ∃ s : Ext w13, w15 = s.w := ⟨⟨w15, s0.h.trans (hb15.mono s0.h.size)⟩, rfl⟩
  refine hK _ _ ⟨hS2, ?_⟩
  clear hK K
  have hv1 : _ = _ := HCV.out w15 A15 li c15 hR15 rfl
  clear hR15 hb15
  refine wpAnyH_all (rs := [16]) (by decide +kernel) (by simp) ?_
  intro i0 hi0
  have hi1 := List.mem_singleton.1 hi0
  clear hi0
  subst hi1
  refine wpOp_go rfl (by kernel_rfl) (fun K hK => ?_)
  go_simp
  refine hK _ _ ⟨hS2, ?_⟩
  clear hK K hv1
  refine takeD (i := 19) (d := some 81) (v := ?_) rfl rfl (by kernel_rfl) (by decide +kernel) (by decide +kernel) (fun _ _ _ h => h) (Or.inl ⟨by first | kernel_rfl | rfl, ?_⟩) hS2 ?_
  rotate_left
  · intro w' hT; obtain ⟨s, rfl⟩ := hT; have c1 := cvy s; have c2 := cvb s; have c3 := cvi s; first | (go_simp; done) | (go_simp; with_reducible rfl)
  refine takeD (i := 20) (d := some 82) (v := ?_) rfl rfl (by kernel_rfl) (by decide +kernel) (by decide +kernel) (fun _ _ _ h => h) (Or.inl ⟨by first | kernel_rfl | rfl, ?_⟩) hS2 ?_
  rotate_left
  · intro w' hT; obtain ⟨s, rfl⟩ := hT; have c1 := cvy s; have c2 := cvb s; have c3 := cvi s; first | (go_simp; done) | (go_simp; with_reducible rfl)
  refine takeD (i := 21) (d := some 83) (v := ?_) rfl rfl (by kernel_rfl) (by decide +kernel) (by decide +kernel) (fun _ _ _ h => h) (Or.inl ⟨by first | kernel_rfl | rfl, ?_⟩) hS2 ?_
  rotate_left
  · intro w' hT; obtain ⟨s, rfl⟩ := hT; have c1 := cvy s; have c2 := cvb s; have c3 := cvi s; first | (go_simp; done) | (go_simp; with_reducible rfl)
  refine actNorm (fun a' ha => ?_)
  simp [go_sem] at ha
  subst ha
  refine wpAnyH_all (rs := [22]) (by decide +kernel) (by simp) ?_
  intro i0 hi0
  have hi1 := List.mem_singleton.1 hi0
  clear hi0
  subst hi1
  refine wpOp_go rfl (by kernel_rfl) (fun K hK => ?_)
  go_simp
  obtain ⟨s2, rfl⟩ := hS2
  refine (HAW.out s2).mono ?_
  rintro e w16 ⟨rfl, hb16⟩
  have hB16 := s2.h.trans (hb16.mono s2.h.size)
  have hS3 : ∃ s : Ext w13, w16 = s.w := ⟨⟨w16, hB16⟩, rfl⟩
  refine hK _ _ ⟨hS3, ?_⟩
  clear hK K
  refine takeD (i := 23) (d := some 85) (v := ?_) rfl rfl (by kernel_rfl) (by decide +kernel) (by decide +kernel) (fun _ _ _ h => h) (Or.inl ⟨by first | kernel_rfl | rfl, ?_⟩) hS3 ?_
  rotate_left
  · intro w' hT; obtain ⟨s, rfl⟩ := hT; have c1 := cvy s; have c2 := cvb s; have c3 := cvi s; first | (go_simp; done) | (go_simp; with_reducible rfl)
  refine takeD (i := 24) (d := some 4) (v := ?_) rfl rfl (by kernel_rfl) (by decide +kernel) (by decide +kernel) (fun _ _ _ h => h) (Or.inl ⟨by first | kernel_rfl | rfl, ?_⟩) hS3 ?_
  rotate_left
  · intro w' hT; obtain ⟨s, rfl⟩ := hT; have c1 := cvy s; have c2 := cvb s; have c3 := cvi s; first | (go_simp; done) | (go_simp; with_reducible rfl)
  refine actNorm (fun a' ha => ?_)
  simp [go_sem] at ha
  subst ha
  refine wpAnyH_done (by decide +kernel) ?_ _
  have hBe := HB13.out.trans (hB16.mono hW13)
  clear cvy cvb cvi
  go_wp2
  go_ret
  exact ⟨rfl, hBe⟩
end Go.Proofs.Ytalfffkcmddakab
