/- The document's journal: Open. -/
import Derived.Test.YtalfffkcmddakabR4
import Derived.Test.YtalfffkcmddakabR2
import Derived.Test.YtalfffkcmddakabZ7
namespace Go.Proofs.Ytalfffkcmddakab
open Go.RowKit Go.Shelf

abbrev rjA (r : Nat) (J : Pl.Jn) (v : Value) : Array Value := #[ptr r, .int .i64 (J.t : Nat), v, .int .i64 ((J.st - 1 : Nat) : Int), .bool J.fd]
/-- block j is this journal of the document, on disk r -/
structure IsRj (w : World) (j r : Nat) (J : Pl.Jn) (v : Value) : Prop where
  blk : Blk w j 87 (rjA r J v)
  o : Own8 w v J.im
  t : J.t ≤ 2147483647
  s : 1 ≤ J.st
def Rjl (w : World) (j r : Nat) (J : Pl.Jn) : Prop := ∃ v, IsRj w j r J v
theorem tKj : (87 : TypeId) ≠ 5 := by decide
theorem IsRj.fr {S : List Nat} {w w' : World} {j r : Nat} {J : Pl.Jn} {v : Value} (h : IsRj w j r J v) (hf : Fr S w w') (hb : j ∉ S) (hS : ∀ g, g ∈ S → g < w.heap.size → ∃ t cs, Blk w g t cs ∧ t ≠ 5) : IsRj w' j r J v := ⟨h.blk.fr hf hb, h.o.fr hf hS, h.t, h.s⟩
theorem IsRj.below {w w' : World} {j r : Nat} {J : Pl.Jn} {v : Value} (h : IsRj w j r J v) (hb : Below w.heap.size w w') : IsRj w' j r J v := h.fr (Fr.of_below [] hb) (by simp) (by simp)
theorem Rjl.below {w w' : World} {j r : Nat} {J : Pl.Jn} (h : Rjl w j r J) (hb : Below w.heap.size w w') : Rjl w' j r J := by obtain ⟨v, h⟩ := h; exact ⟨v, h.below hb⟩
theorem IsRj.at_ {w : World} {j r : Nat} {J : Pl.Jn} {v : Value} (h : IsRj w j r J v) : ∀ g, g ∈ [j] → g < w.heap.size → ∃ t cs, Blk w g t cs ∧ t ≠ 5 := fun g hg _ => by
  simp at hg; subst hg; exact ⟨_, _, h.blk, tKj⟩
theorem rj_no {w : World} {j r : Nat} {J : Pl.Jn} {v : Value} (h : IsRj w j r J v) (o : Nat) (x : Int) : ¬ w.cell? ⟨j, o, none⟩ = some (.int .u8 x) := by
  rw [h.blk.cell o]
  obtain ⟨A, c, rfl, _⟩ := h.o.rows
  match o with
  | 0 => simp
  | 1 => simp
  | 2 => simp
  | 3 => simp
  | 4 => simp
  | o + 5 => simp
set_option maxRecDepth 100000 in
set_option maxHeartbeats 1000000 in
theorem ropen_down {w : World} {r : Nat} {D : Pl.Dk} (k : Rsk w r D) (hu : D.up = false) :
    Calls Try.prog 44 #[ptr r] w fun e w' => e = .returned (.tuple #[.pointer none, .int .i64 91]) ∧ w' = w := by
  obtain ⟨v0, v1, kp, k⟩ := k
  have q2 : w.cell? ⟨r, 2, none⟩ = some (.bool true) := (k.blk.cell 2).trans (by show some (Value.bool (!D.up)) = _; rw [hu]; rfl)
  clear k
  go_enter Try.func44, Try.ntmps44
  go_wp2
  go_ret2
  exact ⟨rfl, rfl⟩
set_option maxRecDepth 100000 in
set_option maxHeartbeats 8000000 in
theorem ropen_any {w : World} {r : Nat} {D : Pl.Dk} (k : Rsk w r D) (hu : D.up = true) :
    Calls Try.prog 44 #[ptr r] w fun e w' => e = .returned (.tuple #[ptr w.heap.size, .int .i64 0]) ∧ Rjl w' w.heap.size r (Pl.opn D) ∧ Below w.heap.size w w' := by
  obtain ⟨v0, v1, kp, k⟩ := k
  have HK := Lib.hid k
  have q2 : w.cell? ⟨r, 2, none⟩ = some (.bool false) := (k.blk.cell 2).trans (by show some (Value.bool (!D.up)) = _; rw [hu]; rfl)
  have q5 : w.cell? ⟨r, 5, none⟩ = some (.int .i64 ((D.st - 1 : Nat) : Int)) := k.blk.cell 5
  have HB0 := Lib.hid ((Below.refl w.heap.size w).alloc (Nat.le_refl _) (.cells (rjA r ⟨0, [], D.st, false⟩ (.slice none 0 0)) 87))
  have HJ0 : Hid (IsRj (w.alloc (.cells (rjA r ⟨0, [], D.st, false⟩ (.slice none 0 0)) 87)) w.heap.size r (stK D 0) (.slice none 0 0)) := Lib.hid ⟨Blk.new w _ _, Own8.nil _, Nat.zero_le _, k.st⟩
  clear k hu
  go_enter Try.func44, Try.ntmps44
  go_wp2
  generalize w.alloc (.cells (rjA r ⟨0, [], D.st, false⟩ (.slice none 0 0)) 87) = W at *
  clear q2 q5
  go_loopw [5, 6, 7, 8, 20] (fun _ _ _ _ i wr => ∃ q : Nat, q ≤ 2 ∧ i = .int .i64 q ∧ Hid (Rjl wr w.heap.size r (stK D q)) ∧ Hid (Below w.heap.size w wr)) (fun _ _ _ _ i _ => 2 - (intOf i).toNat)
  case atStart => exact ⟨0, by omega, rfl, Lib.hid ⟨_, HJ0.out⟩, HB0⟩
  case round =>
    clear HJ0 HB0
    obtain ⟨q, hq, rfl, HJ, HB⟩ := hrel
    obtain ⟨wo, rfl⟩ : ∃ wo, wo = wr := ⟨_, rfl⟩
    have hq3 : q = 0 ∨ q = 1 ∨ q = 2 := by omega
    rcases hq3 with rfl | rfl | rfl
    · have HD := Lib.hid (HK.out.below HB.out)
      obtain ⟨vj, hJ⟩ := HJ.out
      obtain ⟨A, c, rfl, hR, hnc, hcm⟩ := HD.out.o0.rows
      have HN : Hid (stK D (0 + 1) = Pl.stp D 0 (stK D 0)) := Lib.hid rfl
      have HSL : Hid (D.sl 0 = D.s0) := Lib.hid rfl
      generalize stK D 0 = J at *
      have HJc := Lib.hid hJ
      have q3 : wo.cell? ⟨w.heap.size, 1, none⟩ = some (.int .i64 (J.t : Nat)) := hJ.blk.cell 1
      have q0 : wo.cell? ⟨r, 0, none⟩ = some (.slice A D.s0.length c) := HD.out.blk.cell 0
      cases hH : Pl.isH 0 D.s0 with
      | false =>
        have HE := Lib.hid (rheld_no A D.s0 _ c 0 rfl hnc hcm wo hR hH)
        have HS : Hid (Pl.stp D 0 J = J) := Lib.hid (by unfold Pl.stp; rw [HSL.out, tO_no hH, if_neg (by omega)])
        clear hJ hR hnc hcm hH
        go_wp2_with fail
        refine HE.out.mono ?_
        rintro e w2 ⟨⟨v, t, rfl⟩, rfl⟩
        go_wp2
        go_roundw
        case rel => exact ⟨0 + 1, by omega, by simp, Lib.hid (by rw [HN.out, HS.out]; exact ⟨_, HJc.out⟩), HB⟩
        case measure => simp [intOf]
      | true =>
        obtain ⟨bs, off, rfl, hbs, hcl⟩ := hR.open (by have := (Pl.isH_iff.1 hH).1; omega)
        have HE := Lib.hid (rheld_yes0 bs off D.s0 _ c 0 rfl hnc hcm wo hcl hH)
        have HRI := Lib.hid (hi_rows (W := wo) hbs hcl)
        have hI := Pl.isH_iff.1 hH
        have h1 : Hid (1 ≤ Pl.hT D.s0 ∧ Pl.hT D.s0 ≤ 2147483647) := Lib.hid ⟨hI.2.2.2.1, hI.2.2.2.2.1⟩
        have hlen : Hid ((Pl.hI D.s0).length = D.s0.length - 4 - 4 ∧ D.s0.length ≤ 65544) := Lib.hid ⟨by unfold Pl.hI; rw [List.length_take, List.length_drop]; omega, hI.2.1⟩
        have hTH := Lib.hid (tO_yes hH)
        have HT : Hid (J.t < Pl.hT D.s0 → Pl.stp D 0 J = { J with t := Pl.hT D.s0, im := Pl.hI D.s0 }) := Lib.hid (fun hlt => by unfold Pl.stp; rw [HSL.out, hTH.out, if_pos hlt])
        have HU : Hid (¬ J.t < Pl.hT D.s0 → Pl.stp D 0 J = J) := Lib.hid (fun hlt => by unfold Pl.stp; rw [HSL.out, hTH.out, if_neg hlt])
        clear hcl hR hnc hcm hH hI hTH hbs
        generalize Pl.hT D.s0 = t at *
        generalize Pl.hI D.s0 = im at *
        generalize D.s0.length = n at *
        by_cases hlt : J.t < t
        · have hltI : (J.t : Int) < (t : Nat) := by omega
          have dlt : decide ((J.t : Int) < (t : Nat)) = true := by simp; omega
          have HV := Lib.hid (HT.out hlt)
          have g1 := hJ.blk.frozen 1
          clear HT HU hlt
          go_wp2_with fail
          refine HE.out.mono ?_
          rintro e w2 ⟨rfl, rfl⟩
          have bj := HJc.out.blk.set_ 1 (.int .i64 (t : Nat))
          have hf1 := Fr.setCell w2 w.heap.size 1 (.int .i64 (t : Nat))
          have HR1 := Lib.hid (HRI.out.apart hf1 (fun g hg o x => by simp at hg; subst hg; exact rj_no HJc.out o x))
          have hB1 := Lib.hid (HB.out.trans (hf1.below (B := w.heap.size) (by simp) HB.out.size))
          have hRa := Lib.hid (HR1.out.below ((Below.refl _ (w2.setCell ⟨w.heap.size, 1, none⟩ (.int .i64 (t : Nat)))).alloc (Nat.le_refl _) (.cells #[] 5)))
          have hse : (w2.setCell ⟨w.heap.size, 1, none⟩ (.int .i64 (t : Nat))).heap.size = w2.heap.size := by simp [World.setCell]
          have ho0 := own0 (w2.setCell ⟨w.heap.size, 1, none⟩ (.int .i64 (t : Nat)))
          rw [hse] at ho0
          have hbz : w2.heap.size ≤ ((w2.setCell ⟨w.heap.size, 1, none⟩ (.int .i64 (t : Nat))).alloc (.cells #[] 5)).heap.size := by rw [World.size_alloc, hse]; omega
          have hbb : Below w2.heap.size (w2.setCell ⟨w.heap.size, 1, none⟩ (.int .i64 (t : Nat))) ((w2.setCell ⟨w.heap.size, 1, none⟩ (.int .i64 (t : Nat))).alloc (.cells #[] 5)) := (Below.refl _ _).alloc (by rw [hse]; exact Nat.le_refl _) _
          go_wp2_with (at_builtin
                       go_loud (refine wpList_app8 rfl _ _ rfl w2.heap.size _ 0 _ rfl ho0 hbz (some ⟨bs, off + 4, none⟩) im (n - 4 - 4) (c - 4) hlen.out.1 rfl hRa.out (fun h => by cases h) (by have := hlen.out.2; omega) ?_)
                       (intro v8 w8 hO8 hb8
                        obtain ⟨A8, c8, rfl, _, _, _⟩ := rows_ownr (l := im) (hlen.out.1.trans (Nat.zero_add _).symm) hO8
                        have bj8 := (bj.alloc (.cells #[] 5)).below hb8 (by have := bj.lt; rw [hse] at this; exact this)
                        have p2 := bj8.cell 2
                        have g2 := bj8.frozen 2))
          have hba8 := hbb.trans hb8
          have hf8 := Fr.setCell w8 w.heap.size 2 (.slice A8 (0 + (n - 4 - 4)) c8)
          have hsz := bj.lt
          rw [hse] at hsz
          have hB9 := Lib.hid ((hB1.out.trans (hba8.mono (Nat.le_of_lt hsz))).trans (hf8.below (B := w.heap.size) (by simp) (by have := hba8.size; omega)))
          have hO9 : Own8 (w8.setCell ⟨w.heap.size, 2, none⟩ (.slice A8 (0 + (n - 4 - 4)) c8)) (.slice A8 (0 + (n - 4 - 4)) c8) im := Own8.fr (S := [w.heap.size]) (by
              have := own_mono hO8 (Nat.zero_le _)
              rw [Nat.zero_add, ← hlen.out.1] at this ⊢
              exact this) hf8 (fun g hg _ => by simp at hg; subst hg; exact ⟨_, _, bj8, tKj⟩)
          have HJ9 : Hid (Rjl (w8.setCell ⟨w.heap.size, 2, none⟩ (.slice A8 (0 + (n - 4 - 4)) c8)) w.heap.size r { J with t := t, im := im }) := Lib.hid ⟨_, bj8.set_ 2 _, hO9, h1.out.2, HJc.out.s⟩
          rw [Nat.zero_add] at hB9 HJ9
          clear hO8 hb8 hba8 hf8 hO9 p2 g2 bj8 hbb hRa ho0 hbz
          go_roundw
          case rel => exact ⟨0 + 1, by omega, by simp, Lib.hid (by rw [HN.out, HV.out]; exact HJ9.out), hB9⟩
          case measure => simp [intOf]
        · have hltI : ¬ (J.t : Int) < (t : Nat) := by omega
          have dlt : decide ((J.t : Int) < (t : Nat)) = false := by simp; omega
          have HV := Lib.hid (HU.out hlt)
          clear HT HU hlt
          go_wp2_with fail
          refine HE.out.mono ?_
          rintro e w2 ⟨rfl, rfl⟩
          go_wp2
          go_roundw
          case rel => exact ⟨0 + 1, by omega, by simp, Lib.hid (by rw [HN.out, HV.out]; exact ⟨_, HJc.out⟩), HB⟩
          case measure => simp [intOf]
    · have HD := Lib.hid (HK.out.below HB.out)
      obtain ⟨vj, hJ⟩ := HJ.out
      obtain ⟨A, c, rfl, hR, hnc, hcm⟩ := HD.out.o1.rows
      have HN : Hid (stK D (1 + 1) = Pl.stp D 1 (stK D 1)) := Lib.hid rfl
      have HSL : Hid (D.sl 1 = D.s1) := Lib.hid rfl
      generalize stK D 1 = J at *
      have HJc := Lib.hid hJ
      have q3 : wo.cell? ⟨w.heap.size, 1, none⟩ = some (.int .i64 (J.t : Nat)) := hJ.blk.cell 1
      have q0 : wo.cell? ⟨r, 1, none⟩ = some (.slice A D.s1.length c) := HD.out.blk.cell 1
      cases hH : Pl.isH 1 D.s1 with
      | false =>
        have HE := Lib.hid (rheld_no A D.s1 _ c 1 rfl hnc hcm wo hR hH)
        have HS : Hid (Pl.stp D 1 J = J) := Lib.hid (by unfold Pl.stp; rw [HSL.out, tO_no hH, if_neg (by omega)])
        clear hJ hR hnc hcm hH
        go_wp2_with fail
        refine HE.out.mono ?_
        rintro e w2 ⟨⟨v, t, rfl⟩, rfl⟩
        go_wp2
        go_roundw
        case rel => exact ⟨1 + 1, by omega, by simp, Lib.hid (by rw [HN.out, HS.out]; exact ⟨_, HJc.out⟩), HB⟩
        case measure => simp [intOf]
      | true =>
        obtain ⟨bs, off, rfl, hbs, hcl⟩ := hR.open (by have := (Pl.isH_iff.1 hH).1; omega)
        have HE := Lib.hid (rheld_yes0 bs off D.s1 _ c 1 rfl hnc hcm wo hcl hH)
        have HRI := Lib.hid (hi_rows (W := wo) hbs hcl)
        have hI := Pl.isH_iff.1 hH
        have h1 : Hid (1 ≤ Pl.hT D.s1 ∧ Pl.hT D.s1 ≤ 2147483647) := Lib.hid ⟨hI.2.2.2.1, hI.2.2.2.2.1⟩
        have hlen : Hid ((Pl.hI D.s1).length = D.s1.length - 4 - 4 ∧ D.s1.length ≤ 65544) := Lib.hid ⟨by unfold Pl.hI; rw [List.length_take, List.length_drop]; omega, hI.2.1⟩
        have hTH := Lib.hid (tO_yes hH)
        have HT : Hid (J.t < Pl.hT D.s1 → Pl.stp D 1 J = { J with t := Pl.hT D.s1, im := Pl.hI D.s1 }) := Lib.hid (fun hlt => by unfold Pl.stp; rw [HSL.out, hTH.out, if_pos hlt])
        have HU : Hid (¬ J.t < Pl.hT D.s1 → Pl.stp D 1 J = J) := Lib.hid (fun hlt => by unfold Pl.stp; rw [HSL.out, hTH.out, if_neg hlt])
        clear hcl hR hnc hcm hH hI hTH hbs
        generalize Pl.hT D.s1 = t at *
        generalize Pl.hI D.s1 = im at *
        generalize D.s1.length = n at *
        by_cases hlt : J.t < t
        · have hltI : (J.t : Int) < (t : Nat) := by omega
          have dlt : decide ((J.t : Int) < (t : Nat)) = true := by simp; omega
          have HV := Lib.hid (HT.out hlt)
          have g1 := hJ.blk.frozen 1
          clear HT HU hlt
          go_wp2_with fail
          refine HE.out.mono ?_
          rintro e w2 ⟨rfl, rfl⟩
          have bj := HJc.out.blk.set_ 1 (.int .i64 (t : Nat))
          have hf1 := Fr.setCell w2 w.heap.size 1 (.int .i64 (t : Nat))
          have HR1 := Lib.hid (HRI.out.apart hf1 (fun g hg o x => by simp at hg; subst hg; exact rj_no HJc.out o x))
          have hB1 := Lib.hid (HB.out.trans (hf1.below (B := w.heap.size) (by simp) HB.out.size))
          have hRa := Lib.hid (HR1.out.below ((Below.refl _ (w2.setCell ⟨w.heap.size, 1, none⟩ (.int .i64 (t : Nat)))).alloc (Nat.le_refl _) (.cells #[] 5)))
          have hse : (w2.setCell ⟨w.heap.size, 1, none⟩ (.int .i64 (t : Nat))).heap.size = w2.heap.size := by simp [World.setCell]
          have ho0 := own0 (w2.setCell ⟨w.heap.size, 1, none⟩ (.int .i64 (t : Nat)))
          rw [hse] at ho0
          have hbz : w2.heap.size ≤ ((w2.setCell ⟨w.heap.size, 1, none⟩ (.int .i64 (t : Nat))).alloc (.cells #[] 5)).heap.size := by rw [World.size_alloc, hse]; omega
          have hbb : Below w2.heap.size (w2.setCell ⟨w.heap.size, 1, none⟩ (.int .i64 (t : Nat))) ((w2.setCell ⟨w.heap.size, 1, none⟩ (.int .i64 (t : Nat))).alloc (.cells #[] 5)) := (Below.refl _ _).alloc (by rw [hse]; exact Nat.le_refl _) _
          go_wp2_with (at_builtin
                       go_loud (refine wpList_app8 rfl _ _ rfl w2.heap.size _ 0 _ rfl ho0 hbz (some ⟨bs, off + 4, none⟩) im (n - 4 - 4) (c - 4) hlen.out.1 rfl hRa.out (fun h => by cases h) (by have := hlen.out.2; omega) ?_)
                       (intro v8 w8 hO8 hb8
                        obtain ⟨A8, c8, rfl, _, _, _⟩ := rows_ownr (l := im) (hlen.out.1.trans (Nat.zero_add _).symm) hO8
                        have bj8 := (bj.alloc (.cells #[] 5)).below hb8 (by have := bj.lt; rw [hse] at this; exact this)
                        have p2 := bj8.cell 2
                        have g2 := bj8.frozen 2))
          have hba8 := hbb.trans hb8
          have hf8 := Fr.setCell w8 w.heap.size 2 (.slice A8 (0 + (n - 4 - 4)) c8)
          have hsz := bj.lt
          rw [hse] at hsz
          have hB9 := Lib.hid ((hB1.out.trans (hba8.mono (Nat.le_of_lt hsz))).trans (hf8.below (B := w.heap.size) (by simp) (by have := hba8.size; omega)))
          have hO9 : Own8 (w8.setCell ⟨w.heap.size, 2, none⟩ (.slice A8 (0 + (n - 4 - 4)) c8)) (.slice A8 (0 + (n - 4 - 4)) c8) im := Own8.fr (S := [w.heap.size]) (by
              have := own_mono hO8 (Nat.zero_le _)
              rw [Nat.zero_add, ← hlen.out.1] at this ⊢
              exact this) hf8 (fun g hg _ => by simp at hg; subst hg; exact ⟨_, _, bj8, tKj⟩)
          have HJ9 : Hid (Rjl (w8.setCell ⟨w.heap.size, 2, none⟩ (.slice A8 (0 + (n - 4 - 4)) c8)) w.heap.size r { J with t := t, im := im }) := Lib.hid ⟨_, bj8.set_ 2 _, hO9, h1.out.2, HJc.out.s⟩
          rw [Nat.zero_add] at hB9 HJ9
          clear hO8 hb8 hba8 hf8 hO9 p2 g2 bj8 hbb hRa ho0 hbz
          go_roundw
          case rel => exact ⟨1 + 1, by omega, by simp, Lib.hid (by rw [HN.out, HV.out]; exact HJ9.out), hB9⟩
          case measure => simp [intOf]
        · have hltI : ¬ (J.t : Int) < (t : Nat) := by omega
          have dlt : decide ((J.t : Int) < (t : Nat)) = false := by simp; omega
          have HV := Lib.hid (HU.out hlt)
          clear HT HU hlt
          go_wp2_with fail
          refine HE.out.mono ?_
          rintro e w2 ⟨rfl, rfl⟩
          go_wp2
          go_roundw
          case rel => exact ⟨1 + 1, by omega, by simp, Lib.hid (by rw [HN.out, HV.out]; exact ⟨_, HJc.out⟩), HB⟩
          case measure => simp [intOf]
    · have HJ2 := HJ
      go_wp2
      go_ret2
      exact ⟨rfl, HJ2.out, HB.out⟩
end Go.Proofs.Ytalfffkcmddakab
