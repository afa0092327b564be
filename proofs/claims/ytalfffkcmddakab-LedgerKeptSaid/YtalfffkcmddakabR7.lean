/- The document's journal: Save. -/
import Derived.Test.YtalfffkcmddakabR6
namespace Go.Proofs.Ytalfffkcmddakab
open Go.RowKit Go.Shelf

theorem tKD : (82 : TypeId) ≠ 87 := by decide
theorem Rjl.no {w : World} {j r : Nat} {J : Pl.Jn} (h : Rjl w j r J) : ∀ g, g ∈ [j] → ∀ o x, ¬ w.cell? ⟨g, o, none⟩ = some (.int .u8 x) := fun g hg o x => by
  obtain ⟨v, h⟩ := h
  obtain rfl : g = j := by simpa using hg
  exact rj_no h o x
theorem Rjl.at_ {w : World} {j r : Nat} {J : Pl.Jn} (h : Rjl w j r J) : ∀ g, g ∈ [j] → g < w.heap.size → ∃ t cs, Blk w g t cs ∧ t ≠ 5 := by obtain ⟨v, h⟩ := h; exact h.at_
theorem Rjl.ne {w : World} {j r r' : Nat} {J : Pl.Jn} {D : Pl.Dk} (h : Rjl w j r J) (k : Rsk w r' D) : j ≠ r' := fun e => by
  obtain ⟨v, h⟩ := h
  obtain ⟨v0, v1, kp, k⟩ := k
  subst e
  exact tKD (k.blk.one h.blk)
theorem Rjl.frb {w w' : World} {j r r' : Nat} {J : Pl.Jn} {D : Pl.Dk} (h : Rjl w j r J) (k : Rsk w r' D) (hf : Fr [r'] w w') : Rjl w' j r J := by
  have hne := h.ne k
  obtain ⟨v, h⟩ := h
  exact ⟨v, h.fr hf (by simpa using hne) k.at_⟩
theorem Rsk.frj {w w' : World} {j r r' : Nat} {J : Pl.Jn} {D : Pl.Dk} (k : Rsk w r D) (h : Rjl w j r' J) (hf : Fr [j] w w') : Rsk w' r D :=
  k.fr hf (by simpa using (h.ne k).symm) h.at_
theorem Rjl.lt {w : World} {j r : Nat} {J : Pl.Jn} (h : Rjl w j r J) : j < w.heap.size := by obtain ⟨v, h⟩ := h; exact h.blk.lt
theorem rcoded_z (A : Option Addr) (l : Pl.Bs) (n c t : Nat) (z : Int) (hz : z = (t : Int)) (hn : l.length = n) (hm : n ≤ 70000) (hnil : A = none → c = 0) (w : World) (hI : Rows u8L 1 w A l) :
    Calls Try.prog 61 #[.slice A n c, .int .i64 z] w fun e w' => ∃ u, e = .returned u ∧ w'.ownsRow w.heap.size 5 1 u (n + 8) (flt u8L (Pl.cod l t)) ∧ Below w.heap.size w w' := by
  subst hz; exact rcoded_any A l n c t hn hm hnil w hI
set_option maxRecDepth 100000 in
set_option maxHeartbeats 4000000 in
theorem rsave_dead {w : World} {j r : Nat} {J : Pl.Jn} {D : Pl.Dk} (h : Rjl w j r J) (k : Rsk w r D) (A : Option Addr) (n c : Nat) (hd : Pl.ded D J = true) :
    Calls Try.prog 45 #[ptr j, .slice A n c] w fun e w' => e = .returned (.int .i64 92) ∧ Below w.heap.size w w' := by
  have HD := Lib.hid (rdead_any h k true hd)
  clear h k hd
  go_enter Try.func45, Try.ntmps45
  go_wp2_with fail
  refine HD.out.mono ?_
  rintro e w2 ⟨rfl, hb⟩
  go_wp2
  go_ret
  exact ⟨rfl, hb⟩
set_option maxRecDepth 100000 in
set_option maxHeartbeats 4000000 in
theorem rsave_lim {w : World} {j r : Nat} {J : Pl.Jn} {D : Pl.Dk} (h : Rjl w j r J) (k : Rsk w r D) (A : Option Addr) (l : Pl.Bs) (n c : Nat) (hn : l.length = n) (hn63 : (n : Int) ≤ 9223372036854775807) (hd : Pl.ded D J = false) (hL : Pl.lim J l = true) :
    Calls Try.prog 45 #[ptr j, .slice A n c] w fun e w' => e = .returned (.int .i64 4) ∧ Below w.heap.size w w' := by
  have HD := Lib.hid (rdead_any h k false hd)
  have HH := Lib.hid h
  subst hn
  unfold Pl.lim at hL
  rw [Bool.or_eq_true, decide_eq_true_iff, decide_eq_true_iff] at hL
  by_cases h6 : 65536 < l.length
  case' pos =>
    have h6I : (65536 : Int) < (l.length : Nat) := by omega
    clear hL
  case' neg =>
    have e1 : J.t = 2147483647 := by omega
    clear hL
  all_goals
    generalize l.length = n at *
    clear h k hd
    go_enter Try.func45, Try.ntmps45
    go_wp2_with fail
    refine HD.out.mono ?_
    rintro e w2 ⟨rfl, hb⟩
  · have q1 : w2.cell? ⟨j, 1, none⟩ = some (.int .i64 2147483647) := by
      obtain ⟨v, h⟩ := HH.out.below hb
      have := h.blk.cell 1
      rw [this]
      show some (Value.int .i64 (J.t : Nat)) = _
      rw [e1]; rfl
    clear e1 HH
    go_wp2
    go_ret
    exact ⟨rfl, hb⟩
  · go_wp2
    go_ret
    exact ⟨rfl, hb⟩
set_option maxRecDepth 100000 in
set_option maxHeartbeats 8000000 in
theorem rsave_go {w : World} {j r : Nat} {J : Pl.Jn} {D : Pl.Dk} (h : Rjl w j r J) (k : Rsk w r D) (A : Option Addr) (l : Pl.Bs) (n c : Nat) (hn : l.length = n) (hnil : A = none → c = 0) (hI : Rows u8L 1 w A l) (hd : Pl.ded D J = false) (hL : Pl.lim J l = false) :
    Calls Try.prog 45 #[ptr j, .slice A n c] w fun e w' => e = .returned (.int .i64 (Pl.svE D J l)) ∧ Rsk w' r (Pl.svD D J l) ∧ Rjl w' j r (Pl.svJ D J l) ∧ Fr [r, j] w w' := by
  have e1 : Pl.svE D J l = Pl.wrE D (Pl.nxI J) := by unfold Pl.svE; rw [hd, hL]; rfl
  have e2 : Pl.svD D J l = Pl.wrD D (Pl.nxI J) (Pl.cod l (J.t + 1)) := by unfold Pl.svD; rw [hd, hL]; rfl
  have e3 : Pl.svJ D J l = if Pl.wrE D (Pl.nxI J) = 0 then { J with t := J.t + 1, im := l } else { J with fd := true } := by unfold Pl.svJ; rw [hd, hL]; rfl
  rw [e1, e2]
  obtain ⟨er, her⟩ : ∃ er, Pl.wrE D (Pl.nxI J) = er := ⟨_, rfl⟩
  rw [her] at e3 ⊢
  have HER := Lib.hid her
  have E3 := Lib.hid e3
  clear e1 e2 e3 her
  unfold Pl.lim at hL
  rw [Bool.or_eq_false_iff, decide_eq_false_iff_not, decide_eq_false_iff_not] at hL
  obtain ⟨hl6, hl7⟩ := hL
  subst hn
  have hl6' : l.length ≤ 65536 := by omega
  have ht : J.t ≤ 2147483647 := by obtain ⟨v, h⟩ := h; exact h.t
  have HJ := Lib.hid h
  have HK := Lib.hid k
  have HD := Lib.hid (rdead_any h k false hd)
  have HI := Lib.hid hI
  have HN := Lib.hid hnil
  have hlI : ¬ (65536 : Int) < (l.length : Nat) := by omega
  have htI : (((J.t : Nat) : Int) == 2147483647) = false := by rw [beq_eq_false_iff_ne]; omega
  have htm : J.t ≤ 2147483646 := by omega
  have hnx : ((J.t : Int) + 1).tmod 2 = Pl.nxI J := rfl
  clear h k hd hI hl6 hl7 hnil ht
  go_enter Try.func45, Try.ntmps45
  go_wp2_with fail
  refine HD.out.mono ?_
  rintro e w2 ⟨rfl, hb2⟩
  have HJ2 := Lib.hid (HJ.out.below hb2)
  have HK2 := Lib.hid (HK.out.below hb2)
  have HI2 := Lib.hid (HI.out.below hb2)
  have HF2 := Lib.hid (Fr.of_below [r, j] hb2)
  have q1 : w2.cell? ⟨j, 1, none⟩ = some (.int .i64 (J.t : Nat)) := by obtain ⟨v, h⟩ := HJ2.out; exact h.blk.cell 1
  clear HJ HK HI hb2 HD
  go_wp2
  clear q1
  refine wp_region_held (S := fun W => W.cell? ⟨j, 0, none⟩ = some (ptr r)) (by kernel_rfl) ?_
  change wpAnyH _ _ _ _ _ _ _ _ (World.drew _)
  have HJ3 : Hid (Rjl w2.drew j r J) := Lib.hid (by obtain ⟨v, h⟩ := HJ2.out; exact ⟨v, h.blk.drew, h.o, h.t, h.s⟩)
  have HK3 : Hid (Rsk w2.drew r D) := Lib.hid (by obtain ⟨v0, v1, kp, k⟩ := HK2.out; exact ⟨v0, v1, kp, k.drew⟩)
  have HI3 : Hid (Rows u8L 1 w2.drew A l) := Lib.hid HI2.out
  have HF3 := Lib.hid HF2.out.drew
  clear HJ2 HK2 HI2 HF2
  generalize w2.drew = W3 at *
  have hS : W3.cell? ⟨j, 0, none⟩ = some (ptr r) := by obtain ⟨v, h⟩ := HJ3.out; exact h.blk.cell 0
  have HH := Lib.hid (rcoded_z A l l.length c (J.t + 1) ((J.t : Int) + 1) (by omega) rfl (by omega) HN.out W3 HI3.out)
  refine wpAnyH_take (i := 0) (v := ?_) rfl (by kernel_rfl) (by decide +kernel) (by decide +kernel) (fun _ _ _ h => h) (Or.inl ⟨by rfl, ?_⟩) hS ?_
  rotate_left
  · intro w' hS; first | (go_simp; done) | (go_simp; with_reducible rfl)
  refine wpAnyH_take (i := 1) (v := ?_) rfl (by kernel_rfl) (by decide +kernel) (by decide +kernel) (fun _ _ _ h => h) (Or.inl ⟨by rfl, ?_⟩) hS ?_
  rotate_left
  · intro w' hS; first | (go_simp; done) | (go_simp; with_reducible rfl)
  refine wpAnyH_take (i := 2) (v := ?_) rfl (by kernel_rfl) (by decide +kernel) (by decide +kernel) (fun _ _ _ h => h) (Or.inl ⟨by rfl, ?_⟩) hS ?_
  rotate_left
  · intro w' hS; first | (go_simp; done) | (go_simp; with_reducible rfl)
  refine wpAnyH_take (i := 3) (v := ?_) rfl (by kernel_rfl) (by decide +kernel) (by decide +kernel) (fun _ _ _ h => h) (Or.inl ⟨by rfl, ?_⟩) hS ?_
  rotate_left
  · intro w' hS; have k0 : w'.cell? ⟨j, 0, none⟩ = some (ptr r) := hS; first | (go_simp; done) | (go_simp; with_reducible rfl)
  refine wpAnyH_take (i := 4) (v := ?_) rfl (by kernel_rfl) (by decide +kernel) (by decide +kernel) (fun _ _ _ h => h) (Or.inl ⟨by rfl, ?_⟩) hS ?_
  rotate_left
  · intro w' hS; first | (go_simp; done) | (go_simp; with_reducible rfl)
  refine wpAnyH_take (i := 5) (v := .int .i64 (Pl.nxI J)) rfl (by kernel_rfl) (by decide +kernel) (by decide +kernel) (fun _ _ _ h => h) (Or.inl ⟨by rfl, ?_⟩) hS ?_
  · intro w' hS; first | (go_simp; done) | (go_simp; with_reducible rfl)
  refine wpAnyH_take (i := 6) (v := ?_) rfl (by kernel_rfl) (by decide +kernel) (by decide +kernel) (fun _ _ _ h => h) (Or.inl ⟨by rfl, ?_⟩) hS ?_
  rotate_left
  · intro w' hS; first | (go_simp; done) | (go_simp; with_reducible rfl)
  refine wpAnyH_take (i := 7) (v := ?_) rfl (by kernel_rfl) (by decide +kernel) (by decide +kernel) (fun _ _ _ h => h) (Or.inl ⟨by rfl, ?_⟩) hS ?_
  rotate_left
  · intro w' hS; first | (go_simp; done) | (go_simp; with_reducible rfl)
  refine wpAnyH_all (rs := [8]) (by decide +kernel) (by simp) ?_
  intro i0 hi0
  obtain rfl := List.mem_singleton.1 hi0
  refine wpOp_go rfl rfl (fun K hK => ?_)
  go_simp
  refine HH.out.mono ?_
  rintro e w5 ⟨u5, rfl, hO5, hb5⟩
  have hS5 : w5.cell? ⟨j, 0, none⟩ = some (ptr r) := by obtain ⟨v, h⟩ := HJ3.out.below hb5; exact h.blk.cell 0
  have hcl : (Pl.cod l (J.t + 1)).length = l.length + 8 := Pl.cod_len _ _
  obtain ⟨A2, c2, rfl, hR5, hc5, hm5⟩ := rows_ownr hcl hO5
  have hnil2 : A2 = none → c2 = 0 := fun h => by
    subst h
    rcases hO5 with ⟨_, ⟨h, h0⟩ | ⟨g, cap, cur, h, _⟩⟩
    · omega
    · cases h
  refine hK _ _ ⟨hS5, ?_⟩
  clear hK K
  have HJ5 := Lib.hid (HJ3.out.below hb5)
  have HK5 := Lib.hid (HK3.out.below hb5)
  have HI5 := Lib.hid (HI3.out.below hb5)
  have HF5 := Lib.hid (HF3.out.trans (Fr.of_below [r, j] hb5))
  have HW := Lib.hid (rwrite_any HK5.out (Pl.nxI J) A2 (Pl.cod l (J.t + 1)) (l.length + 8) c2 hcl (by omega) hc5 hnil2 hR5)
  rw [HER.out] at HW
  clear HH HJ3 HK3 HI3 HF3 hR5 hb5 hS hO5 hcl hnil2
  refine wpAnyH_all (rs := [9]) (by decide +kernel) (by simp) ?_
  intro i0 hi0
  obtain rfl := List.mem_singleton.1 hi0
  refine wpOp_go rfl rfl (fun K hK => ?_)
  go_simp
  refine (show Calls Try.prog 37 _ _ _ from HW.out).mono ?_
  rintro e w6 ⟨rfl, hD6, hF6⟩
  have HJ6 := Lib.hid (Rjl.frb HJ5.out HK5.out hF6)
  have HI6 := Lib.hid (HI5.out.apart hF6 HK5.out.no)
  have HF6 := Lib.hid (HF5.out.trans (hF6.mono (T := [r, j]) (fun k hk _ => by simp at hk; subst hk; simp)))
  have HD6 := Lib.hid hD6
  have hS6 : w6.cell? ⟨j, 0, none⟩ = some (ptr r) := by obtain ⟨v', h'⟩ := HJ6.out; exact h'.blk.cell 0
  clear HW HJ5 HK5 HI5 HF5 hD6 hF6 hS5
  refine hK _ _ ⟨hS6, ?_⟩
  clear hK K
  refine wpAnyH_take (i := 10) (v := ?_) rfl (by kernel_rfl) (by decide +kernel) (by decide +kernel) (fun _ _ _ h => h) (Or.inl ⟨by rfl, ?_⟩) hS6 ?_
  rotate_left
  · intro w' hS; first | (go_simp; done) | (go_simp; with_reducible rfl)
  refine wpAnyH_done (by decide +kernel) ?_ _
  obtain ⟨v6, hJ6⟩ := HJ6.out
  have HJ7 := Lib.hid hJ6
  have q1 : w6.cell? ⟨j, 1, none⟩ = some (.int .i64 (J.t : Nat)) := hJ6.blk.cell 1
  have q4 : w6.cell? ⟨j, 4, none⟩ = some (.bool J.fd) := hJ6.blk.cell 4
  have f1 := hJ6.blk.frozen 1
  have f4 := hJ6.blk.frozen 4
  clear hJ6 HJ6
  by_cases h0 : er = 0
  · subst h0
    rw [if_pos rfl] at E3
    obtain ⟨W1, hW1⟩ : ∃ W, w6.setCell ⟨j, 1, none⟩ (.int .i64 ((J.t : Int) + 1)) = W := ⟨_, rfl⟩
    have bj : Blk W1 j 87 (rjA r { J with t := J.t + 1 } v6) := by rw [← hW1]; exact HJ7.out.blk.set_ 1 _
    have hf1 : Fr [j] w6 W1 := by rw [← hW1]; exact Fr.setCell w6 j 1 _
    have HR1 := Lib.hid (HI6.out.apart hf1 (Rjl.no ⟨v6, HJ7.out⟩))
    have HJ1 : Hid (Own8 W1 v6 J.im) := Lib.hid (HJ7.out.o.fr hf1 HJ7.out.at_)
    have HF1 := Lib.hid (HF6.out.trans (hf1.mono (T := [r, j]) (fun k hk _ => by simp at hk; subst hk; simp)))
    have HD1 := Lib.hid (HD6.out.frj ⟨v6, HJ7.out⟩ hf1)
    have hba := (Below.refl _ W1).alloc (Nat.le_refl _) (.cells #[] 5)
    have HRa := Lib.hid (HR1.out.below hba)
    have ho0 := own0 W1
    have hbz : W1.heap.size ≤ (W1.alloc (.cells #[] 5)).heap.size := hba.size
    have hsz1 : W1.heap.size = w6.heap.size := by rw [← hW1]; simp [World.setCell]
    have hlt1 := bj.lt
    have HBJ := Lib.hid bj
    clear bj hf1
    subst hW1
    rw [hsz1] at ho0 hlt1
    have hbz : w6.heap.size ≤ ((w6.setCell ⟨j, 1, none⟩ (.int .i64 ((J.t : Int) + 1))).alloc (.cells #[] 5)).heap.size := by rw [← hsz1]; exact hbz
    have hbb : Below w6.heap.size (w6.setCell ⟨j, 1, none⟩ (.int .i64 ((J.t : Int) + 1))) ((w6.setCell ⟨j, 1, none⟩ (.int .i64 ((J.t : Int) + 1))).alloc (.cells #[] 5)) := by rw [← hsz1]; exact hba
    go_wp2_with (at_builtin
                 go_loud (refine wpList_app8 rfl _ _ rfl w6.heap.size _ 0 _ rfl ho0 hbz A l l.length c rfl rfl HRa.out HN.out (by omega) ?_)
                 (intro v8 w8 hO8 hb8
                  obtain ⟨A8, c8, rfl, _, _, _⟩ := rows_ownr (l := l) (Nat.zero_add _).symm hO8
                  have bj8 := (HBJ.out.below hba (by rw [hsz1]; exact hlt1)).below hb8 hlt1
                  have p2 := bj8.cell 2
                  have g2 := bj8.frozen 2))
    have hba8 := hbb.trans hb8
    have hf8 := Fr.setCell w8 j 2 (.slice A8 (0 + l.length) c8)
    have hfa8 : Fr [r, j] (w6.setCell ⟨j, 1, none⟩ (.int .i64 ((J.t : Int) + 1))) w8 := Fr.of_below _ (by rw [hsz1]; exact hba8)
    have hO9 : Own8 w8 (.slice A8 (0 + l.length) c8) l := by
      have := own_mono hO8 (Nat.zero_le _)
      rw [Nat.zero_add] at this ⊢
      exact this
    have hat : ∀ g, g ∈ [j] → g < w8.heap.size → ∃ t cs, Blk w8 g t cs ∧ t ≠ 5 := fun g hg _ => by
      simp at hg; subst hg; exact ⟨_, _, bj8, by decide⟩
    have HO9 := Lib.hid (Own8.fr (S := [j]) hO9 hf8 hat)
    have HJ9 := Lib.hid (bj8.set_ 2 (.slice A8 (0 + l.length) c8))
    have hK8 : Rsk w8 r _ := HD1.out.below (by rw [hsz1]; exact hba8)
    have HK9 := Lib.hid (hK8.fr hf8 (by
      have := (Rjl.ne ⟨v6, HJ7.out⟩ HD6.out).symm
      simpa using this) hat)
    have HF9 := Lib.hid ((HF1.out.trans hfa8).trans (hf8.mono (T := [r, j]) (fun k hk _ => by simp at hk; subst hk; simp)))
    have hts := HJ7.out.s
    rw [Nat.zero_add] at HO9 HJ9 HK9 HF9
    clear hO8 hb8 hba8 hf8 hfa8 hO9 hat hK8 p2 g2 bj8 hbb hba ho0 hbz HRa HR1 HJ1 HF1 HD1
    go_wp2
    go_ret
    rw [E3.out]
    exact ⟨rfl, HK9.out, ⟨_, HJ9.out, HO9.out, by show J.t + 1 ≤ 2147483647; omega, hts⟩, HF9.out⟩
  · rw [if_neg h0] at E3
    have hne : (er != 0) = true := by simpa using h0
    clear h0 q1 f1 HI6
    go_wp2
    go_ret
    rw [E3.out]
    have hf : Fr [j] w6 (w6.setCell ⟨j, 4, none⟩ (.bool true)) := Fr.setCell w6 j 4 _
    exact ⟨rfl, HD6.out.frj ⟨v6, HJ7.out⟩ hf, ⟨_, HJ7.out.blk.set_ 4 _, HJ7.out.o.fr hf HJ7.out.at_, HJ7.out.t, HJ7.out.s⟩, HF6.out.trans (hf.mono (T := [r, j]) (fun k hk _ => by simp at hk; subst hk; simp))⟩
theorem rsave_any {w : World} {j r : Nat} {J : Pl.Jn} {D : Pl.Dk} (h : Rjl w j r J) (k : Rsk w r D) (A : Option Addr) (l : Pl.Bs) (n c : Nat) (hn : l.length = n) (hnc : n ≤ c) (hc : c ≤ maxLen) (hnil : A = none → c = 0) (hI : Rows u8L 1 w A l) :
    Calls Try.prog 45 #[ptr j, .slice A n c] w fun e w' => e = .returned (.int .i64 (Pl.svE D J l)) ∧ Rsk w' r (Pl.svD D J l) ∧ Rjl w' j r (Pl.svJ D J l) ∧ Fr [r, j] w w' := by
  cases hd : Pl.ded D J with
  | true =>
    have e1 : Pl.svE D J l = 92 ∧ Pl.svD D J l = D ∧ Pl.svJ D J l = J := by unfold Pl.svE Pl.svD Pl.svJ; rw [hd]; exact ⟨rfl, rfl, rfl⟩
    rw [e1.1, e1.2.1, e1.2.2]
    exact (rsave_dead h k A n c hd).mono fun e w' ⟨he, hb⟩ => ⟨he, k.below hb, h.below hb, Fr.of_below _ hb⟩
  | false =>
    cases hL : Pl.lim J l with
    | true =>
      have e1 : Pl.svE D J l = 4 ∧ Pl.svD D J l = D ∧ Pl.svJ D J l = J := by unfold Pl.svE Pl.svD Pl.svJ; rw [hd, hL]; exact ⟨rfl, rfl, rfl⟩
      rw [e1.1, e1.2.1, e1.2.2]
      exact (rsave_lim h k A l n c hn (by unfold maxLen at hc; omega) hd hL).mono fun e w' ⟨he, hb⟩ => ⟨he, k.below hb, h.below hb, Fr.of_below _ hb⟩
    | false => exact rsave_go h k A l n c hn hnil hI hd hL
end Go.Proofs.Ytalfffkcmddakab
