/- Image and Save of the program. -/
import Derived.Test.YtalfffkcmddakabZ5
namespace Go.Proofs.Ytalfffkcmddakab
open Go.RowKit Go.Shelf

set_option maxHeartbeats 1000000 in
theorem image_any {w : World} {j b : Nat} {J : Pl.Jn} {v : Value} (h : IsJn w j b J v) (hl : J.im.length ≤ 100000) :
    Calls Try.prog 27 #[ptr j] w fun e w' => ∃ A c, e = .returned (.slice A J.im.length c) ∧ Rows u8L 1 w' A J.im ∧ Own8 w' (.slice A J.im.length c) J.im ∧ (A = none → c = 0) ∧ (∀ g o, A = some ⟨g, o, none⟩ → w.heap.size ≤ g) ∧ Below w.heap.size w w' := by
  have HC := Lib.hid (opened_any h)
  have q4 : w.cell? ⟨j, 4, none⟩ = some v := h.blk.cell 4
  obtain ⟨A, c, rfl, hR, _, _⟩ := h.o.rows
  have HK := Lib.hid (copied_any A J.im c _ rfl hl w hR)
  clear h hR
  generalize hn : J.im.length = n at *
  go_enter Try.func27, Try.ntmps27
  go_wp2_with fail
  refine HC.out.mono ?_
  rintro e w1 ⟨rfl, rfl⟩
  go_wp2_with fail
  refine HK.out.mono ?_
  rintro e w2 ⟨u, rfl, hO, hb⟩
  have HO := Lib.hid hO
  clear hO
  go_wp2
  go_ret
  have hO := HO.out
  rw [← hn] at hO
  obtain ⟨A2, c2, rfl, hR2, _, _⟩ := rows_of_owns encU8 hO
  rw [hn] at hO ⊢
  refine ⟨A2, c2, rfl, hR2, ?_, ?_, fun g o e => ?_, hb⟩
  · unfold Own8; rw [hn]; exact own_mono hO (Nat.zero_le _)
  · intro e
    subst e
    rcases hO.2 with ⟨e, _⟩ | ⟨g, cap, cur, e, _⟩
    · cases e; rfl
    · cases e
  · subst e
    exact (hO.lt g rfl).1

theorem Rows.apart {S : List Nat} {w w' : World} {A : Option Addr} {l : Pl.Bs} (h : Rows u8L 1 w A l) (hf : Fr S w w') (hS : ∀ g, g ∈ S → ∀ o x, ¬ w.cell? ⟨g, o, none⟩ = some (.int .u8 x)) : Rows u8L 1 w' A l := by
  rcases h with rfl | ⟨g, off, e, hg, hc⟩
  · exact .inl rfl
  · by_cases hl : l = []
    · exact .inl hl
    · refine .inr ⟨g, off, e, Nat.lt_of_lt_of_le hg hf.size, fun i hi j u hu => ?_⟩
      have hgb : g ∉ S := fun hm => hS g hm _ _ (hc 0 (List.length_pos_iff.2 hl) 0 _ rfl)
      exact (hf.cell hg hgb).trans (hc i hi j u hu)
theorem IsJn.no {w : World} {j b : Nat} {J : Pl.Jn} {v : Value} (h : IsJn w j b J v) (o : Nat) (x : Int) : ¬ w.cell? ⟨j, o, none⟩ = some (.int .u8 x) := by
  intro hc
  rw [h.blk.cell o] at hc
  match o with
  | 0 => simp at hc
  | 1 => simp at hc
  | 2 => simp at hc
  | 3 => simp at hc
  | 4 => obtain ⟨A, c, e, _⟩ := h.o.rows; subst e; simp at hc
  | n + 5 => simp at hc
theorem Dsk.no {w : World} {b : Nat} {D : Pl.Dk} (h : Dsk w b D) : ∀ g, g ∈ [b] → ∀ o x, ¬ w.cell? ⟨g, o, none⟩ = some (.int .u8 x) := fun g hg o x => by
  obtain ⟨v0, v1, kp, h⟩ := h
  exact own_no h (by simpa using hg) o x
theorem Jnl.no {w : World} {j b : Nat} {J : Pl.Jn} (h : Jnl w j b J) : ∀ g, g ∈ [j] → ∀ o x, ¬ w.cell? ⟨g, o, none⟩ = some (.int .u8 x) := fun g hg o x => by
  obtain ⟨v, h⟩ := h
  obtain rfl : g = j := by simpa using hg
  exact h.no o x
theorem Jnl.frb {w w' : World} {j b b' : Nat} {J : Pl.Jn} {D : Pl.Dk} (h : Jnl w j b J) (k : Dsk w b' D) (hf : Fr [b'] w w') : Jnl w' j b J := by
  obtain ⟨v, h⟩ := h
  obtain ⟨v0, v1, kp, k⟩ := k
  exact ⟨v, h.fr hf (by simpa using h.ne k) k.at_⟩
theorem Dsk.frj {w w' : World} {j b b' : Nat} {J : Pl.Jn} {D : Pl.Dk} (k : Dsk w b D) (h : Jnl w j b' J) (hf : Fr [j] w w') : Dsk w' b D := by
  obtain ⟨v, h⟩ := h
  obtain ⟨v0, v1, kp, k⟩ := k
  exact ⟨v0, v1, kp, k.fr hf (by simpa using (h.ne k).symm) h.at_⟩
theorem slotof_z (t : Nat) (z : Int) (hz : z = (t : Int)) (w : World) : Calls Try.prog 49 #[.int .i64 z] w fun e w' => e = .returned (.int .i64 ((t % 2 : Nat) : Int)) ∧ w' = w := by subst hz; exact slotof_any t w
theorem holding_z (A : Option Addr) (l : Pl.Bs) (n c t : Nat) (z : Int) (hz : z = (t : Int)) (hn : l.length = n) (hm : n ≤ 70000) (hnil : A = none → c = 0) (w : World) (hI : Rows u8L 1 w A l) :
    Calls Try.prog 50 #[.slice A n c, .int .i64 z] w fun e w' => ∃ A2 c2, e = .returned (.slice A2 (n + 8) c2) ∧ Rows u8L 1 w' A2 (Pl.cod l t) ∧ n + 8 ≤ c2 ∧ c2 ≤ maxLen ∧ Below w.heap.size w w' := by
  subst hz
  refine (holding_any A l n c t hn hm hnil w hI).mono fun e w' ⟨u, he, hO, hb⟩ => ?_
  obtain ⟨A2, c2, e2, h2, h3, h4⟩ := rows_of_owns encU8 (show World.ownsRow _ _ _ _ _ (List.length (Pl.cod l t)) _ by rw [Pl.cod_len, hn]; exact hO)
  rw [Pl.cod_len, hn] at e2 h3
  exact ⟨A2, c2, by rw [he, e2], h2, h3, h4, hb⟩

set_option maxRecDepth 100000 in
set_option maxHeartbeats 4000000 in
theorem save_dead {w : World} {j b : Nat} {J : Pl.Jn} {D : Pl.Dk} (h : Jnl w j b J) (k : Dsk w b D) (A : Option Addr) (n c : Nat) (hd : Pl.ded D J = true) :
    Calls Try.prog 24 #[ptr j, .slice A n c] w fun e w' => e = .returned (.int .i64 92) ∧ Below w.heap.size w w' := by
  obtain ⟨v, h⟩ := h
  obtain ⟨v0, v1, kp, k⟩ := k
  have HC := Lib.hid (opened_any h)
  have HD := Lib.hid (dead_b h k true hd)
  clear h k hd
  go_enter Try.func24, Try.ntmps24
  go_wp2_with fail
  refine HC.out.mono ?_
  rintro e w1 ⟨rfl, rfl⟩
  go_wp2_with fail
  refine HD.out.mono ?_
  rintro e w2 ⟨rfl, hb⟩
  go_wp2
  go_ret
  exact ⟨rfl, hb⟩
set_option maxRecDepth 100000 in
set_option maxHeartbeats 4000000 in
theorem save_lim {w : World} {j b : Nat} {J : Pl.Jn} {D : Pl.Dk} (h : Jnl w j b J) (k : Dsk w b D) (A : Option Addr) (l : Pl.Bs) (n c : Nat) (hn : l.length = n) (hn63 : (n : Int) ≤ 9223372036854775807) (hd : Pl.ded D J = false) (hL : Pl.lim J l = true) :
    Calls Try.prog 24 #[ptr j, .slice A n c] w fun e w' => e = .returned (.int .i64 4) ∧ Below w.heap.size w w' := by
  obtain ⟨v, h⟩ := h
  obtain ⟨v0, v1, kp, k⟩ := k
  have HC := Lib.hid (opened_any h)
  have HD := Lib.hid (dead_b h k false hd)
  have HH := Lib.hid h
  subst hn
  unfold Pl.lim at hL
  rw [Bool.or_eq_true, decide_eq_true_iff, decide_eq_true_iff] at hL
  by_cases h6 : 65536 < l.length
  case' pos =>
    have h6I : (65536 : Int) < (l.length : Nat) := by omega
    clear hL
  case' neg =>
    have e1 : J.t = 2147483647 := by omega
    clear hL
  all_goals
    generalize l.length = n at *
    clear h k hd
    go_enter Try.func24, Try.ntmps24
    go_wp2_with fail
    refine HC.out.mono ?_
    rintro e w1 ⟨rfl, rfl⟩
    go_wp2_with fail
    refine HD.out.mono ?_
    rintro e w2 ⟨rfl, hb⟩
  · have q3 : w2.cell? ⟨j, 3, none⟩ = some (.int .i64 2147483647) := by
      have := (HH.out.below hb).blk.cell 3
      rw [this]
      show some (Value.int .i64 (J.t : Nat)) = _
      rw [e1]; rfl
    clear e1 HH
    go_wp2
    go_ret
    exact ⟨rfl, hb⟩
  · go_wp2
    go_ret
    exact ⟨rfl, hb⟩
set_option maxRecDepth 100000 in
set_option maxHeartbeats 8000000 in
theorem save_go {w : World} {j b : Nat} {J : Pl.Jn} {D : Pl.Dk} (h : Jnl w j b J) (k : Dsk w b D) (A : Option Addr) (l : Pl.Bs) (n c : Nat) (hn : l.length = n) (hnc : n ≤ c) (hnil : A = none → c = 0) (hI : Rows u8L 1 w A l) (hd : Pl.ded D J = false) (hL : Pl.lim J l = false) :
    Calls Try.prog 24 #[ptr j, .slice A n c] w fun e w' => e = .returned (.int .i64 (Pl.svE D J l)) ∧ Dsk w' b (Pl.svD D J l) ∧ Jnl w' j b (Pl.svJ D J l) ∧ Fr [b, j] w w' := by
  have e1 : Pl.svE D J l = Pl.wrE D (Pl.nxI J) := by unfold Pl.svE; rw [hd, hL]; rfl
  have e2 : Pl.svD D J l = Pl.wrD D (Pl.nxI J) (Pl.cod l (J.t + 1)) := by unfold Pl.svD; rw [hd, hL]; rfl
  have e3 : Pl.svJ D J l = if Pl.wrE D (Pl.nxI J) = 0 then { J with t := J.t + 1, im := l } else { J with fd := true } := by unfold Pl.svJ; rw [hd, hL]; rfl
  rw [e1, e2]
  obtain ⟨er, her⟩ : ∃ er, Pl.wrE D (Pl.nxI J) = er := ⟨_, rfl⟩
  rw [her] at e3 ⊢
  have HER := Lib.hid her
  have E3 := Lib.hid e3
  clear e1 e2 e3 her
  unfold Pl.lim at hL
  rw [Bool.or_eq_false_iff, decide_eq_false_iff_not, decide_eq_false_iff_not] at hL
  obtain ⟨hl6, hl7⟩ := hL
  subst hn
  have hl6' : l.length ≤ 65536 := by omega
  obtain ⟨v, h⟩ := h
  have ht := h.t
  have HJ := Lib.hid h
  have HK := Lib.hid k
  have HC := Lib.hid (opened_any h)
  have HD : Hid (Calls Try.prog 26 #[ptr j] w fun e w' => e = .returned (.bool false) ∧ Below w.heap.size w w') := Lib.hid (by
    obtain ⟨v0, v1, kp, k⟩ := k
    exact dead_b h k false hd)
  have HI := Lib.hid hI
  have HN := Lib.hid hnil
  have hlI : ¬ (65536 : Int) < (l.length : Nat) := by omega
  have htI : (((J.t : Nat) : Int) == 2147483647) = false := by rw [beq_eq_false_iff_ne]; omega
  have htm : J.t ≤ 2147483646 := by omega
  clear h k hd hI hl6 hl7 hnil ht
  go_enter Try.func24, Try.ntmps24
  go_wp2_with fail
  refine HC.out.mono ?_
  rintro e w1 ⟨rfl, rfl⟩
  go_wp2_with fail
  refine HD.out.mono ?_
  rintro e w2 ⟨rfl, hb2⟩
  have HJ2 := Lib.hid (HJ.out.below hb2)
  have HK2 := Lib.hid (HK.out.below hb2)
  have HI2 := Lib.hid (HI.out.below hb2)
  have HF2 := Lib.hid (Fr.of_below [b, j] hb2)
  have q3 : w2.cell? ⟨j, 3, none⟩ = some (.int .i64 (J.t : Nat)) := HJ2.out.blk.cell 3
  clear HJ HK HI hb2 HC HD
  go_wp2
  clear q3
  refine wp_region_held (S := fun W => W.cell? ⟨j, 0, none⟩ = some (ptr b)) (by kernel_rfl) ?_
  change wpAnyH _ _ _ _ _ _ _ _ (World.drew _)
  have HJ3 := Lib.hid HJ2.out.drew
  have HK3 : Hid (Dsk w2.drew b D) := Lib.hid (by obtain ⟨v0, v1, kp, k⟩ := HK2.out; exact ⟨v0, v1, kp, k.drew⟩)
  have HI3 : Hid (Rows u8L 1 w2.drew A l) := Lib.hid HI2.out
  have HF3 := Lib.hid HF2.out.drew
  clear HJ2 HK2 HI2 HF2
  generalize w2.drew = W3 at *
  have hS : W3.cell? ⟨j, 0, none⟩ = some (ptr b) := HJ3.out.blk.cell 0
  have HO := Lib.hid (fun W => slotof_z (J.t + 1) ((J.t : Int) + 1) (by omega) W)
  have HH := Lib.hid (holding_z A l l.length c (J.t + 1) ((J.t : Int) + 1) (by omega) rfl (by omega) HN.out W3 HI3.out)
  refine wpAnyH_take (i := 0) (v := ?_) rfl (by kernel_rfl) (by decide +kernel) (by decide +kernel) (fun _ _ _ h => h) (Or.inl ⟨by rfl, ?_⟩) hS ?_
  rotate_left
  · intro w' hS; first | (go_simp; done) | (go_simp; with_reducible rfl)
  refine wpAnyH_take (i := 1) (v := ?_) rfl (by kernel_rfl) (by decide +kernel) (by decide +kernel) (fun _ _ _ h => h) (Or.inl ⟨by rfl, ?_⟩) hS ?_
  rotate_left
  · intro w' hS; first | (go_simp; done) | (go_simp; with_reducible rfl)
  refine wpAnyH_take (i := 2) (v := ?_) rfl (by kernel_rfl) (by decide +kernel) (by decide +kernel) (fun _ _ _ h => h) (Or.inl ⟨by rfl, ?_⟩) hS ?_
  rotate_left
  · intro w' hS; first | (go_simp; done) | (go_simp; with_reducible rfl)
  refine wpAnyH_take (i := 3) (v := ?_) rfl (by kernel_rfl) (by decide +kernel) (by decide +kernel) (fun _ _ _ h => h) (Or.inl ⟨by rfl, ?_⟩) hS ?_
  rotate_left
  · intro w' hS; have k0 : w'.cell? ⟨j, 0, none⟩ = some (ptr b) := hS; first | (go_simp; done) | (go_simp; with_reducible rfl)
  refine wpAnyH_take (i := 4) (v := ?_) rfl (by kernel_rfl) (by decide +kernel) (by decide +kernel) (fun _ _ _ h => h) (Or.inl ⟨by rfl, ?_⟩) hS ?_
  rotate_left
  · intro w' hS; first | (go_simp; done) | (go_simp; with_reducible rfl)
  refine wpAnyH_take (i := 6) (v := ?_) rfl (by kernel_rfl) (by decide +kernel) (by decide +kernel) (fun _ _ _ h => h) (Or.inl ⟨by rfl, ?_⟩) hS ?_
  rotate_left
  · intro w' hS; first | (go_simp; done) | (go_simp; with_reducible rfl)
  refine wpAnyH_take (i := 7) (v := ?_) rfl (by kernel_rfl) (by decide +kernel) (by decide +kernel) (fun _ _ _ h => h) (Or.inl ⟨by rfl, ?_⟩) hS ?_
  rotate_left
  · intro w' hS; first | (go_simp; done) | (go_simp; with_reducible rfl)
  refine wpAnyH_all (rs := [5]) (by decide +kernel) (by simp) ?_
  intro i0 hi0
  obtain rfl := List.mem_singleton.1 hi0
  refine wpOp_go rfl rfl (fun K hK => ?_)
  go_simp
  refine (HO.out _).mono ?_
  rintro e w4 ⟨rfl, rfl⟩
  refine hK _ _ ⟨hS, ?_⟩
  clear hK K
  refine wpAnyH_all (rs := [8]) (by decide +kernel) (by simp) ?_
  intro i0 hi0
  obtain rfl := List.mem_singleton.1 hi0
  refine wpOp_go rfl rfl (fun K hK => ?_)
  go_simp
  refine HH.out.mono ?_
  rintro e w5 ⟨A2, c2, rfl, hR5, hc5, hm5, hb5⟩
  have hS5 : w5.cell? ⟨j, 0, none⟩ = some (ptr b) := (HJ3.out.below hb5).blk.cell 0
  refine hK _ _ ⟨hS5, ?_⟩
  clear hK K
  all_goals
    have HJ5 := Lib.hid (HJ3.out.below hb5)
    have HK5 := Lib.hid (HK3.out.below hb5)
    have HI5 := Lib.hid (HI3.out.below hb5)
    have HF5 := Lib.hid (HF3.out.trans (Fr.of_below [b, j] hb5))
    have HW := Lib.hid (write_any HK5.out (Pl.nxI J) A2 (Pl.cod l (J.t + 1)) (l.length + 8) c2 (by rw [Pl.cod_len]) (by omega) hc5 hR5)
    rw [HER.out] at HW
    clear HH HO HJ3 HK3 HI3 HF3 hR5 hb5 hS
    refine wpAnyH_all (rs := [9]) (by decide +kernel) (by simp) ?_
    intro i0 hi0
    obtain rfl := List.mem_singleton.1 hi0
    refine wpOp_go rfl rfl (fun K hK => ?_)
    go_simp
    refine (show Calls Try.prog 30 _ _ _ from HW.out).mono ?_
    rintro e w6 ⟨rfl, hD6, hF6⟩
    have HJ6 := Lib.hid (Jnl.frb ⟨v, HJ5.out⟩ HK5.out hF6)
    have HI6 := Lib.hid (HI5.out.apart hF6 HK5.out.no)
    have HF6 := Lib.hid (HF5.out.trans (hF6.mono (T := [b, j]) (fun k hk _ => by simp at hk; subst hk; simp)))
    have HD6 := Lib.hid hD6
    have hS6 : w6.cell? ⟨j, 0, none⟩ = some (ptr b) := by obtain ⟨v', h'⟩ := HJ6.out; exact h'.blk.cell 0
    clear HW HJ5 HK5 HI5 HF5 hD6 hF6 hS5
    refine hK _ _ ⟨hS6, ?_⟩
    clear hK K
    refine wpAnyH_take (i := 10) (v := ?_) rfl (by kernel_rfl) (by decide +kernel) (by decide +kernel) (fun _ _ _ h => h) (Or.inl ⟨by rfl, ?_⟩) hS6 ?_
    rotate_left
    · intro w' hS; first | (go_simp; done) | (go_simp; with_reducible rfl)
    refine wpAnyH_done (by decide +kernel) ?_ _
    obtain ⟨v6, hJ6⟩ := HJ6.out
    have HJ7 := Lib.hid hJ6
    have q2 := hJ6.blk.cell 2
    have q3 := hJ6.blk.cell 3
    have q4 := hJ6.blk.cell 4
    have f2 := hJ6.blk.frozen 2
    have f3 := hJ6.blk.frozen 3
    have f4 := hJ6.blk.frozen 4
    clear hJ6 HJ6
    change w6.cell? ⟨j, 2, none⟩ = some (.bool J.fd) at q2
    change w6.cell? ⟨j, 3, none⟩ = some (.int .i64 (J.t : Nat)) at q3
    change w6.cell? ⟨j, 4, none⟩ = some v6 at q4
    by_cases h0 : er = 0
    · subst h0
      rw [if_pos rfl] at E3
      have HP := Lib.hid (copied_any A l c l.length rfl (by omega) w6 HI6.out)
      go_wp2_with fail
      refine HP.out.mono ?_
      rintro e w8 ⟨u, rfl, hO8, hb8⟩
      obtain ⟨A8, c8, rfl, _, _, _⟩ := rows_of_owns encU8 hO8
      have HJ8 := Lib.hid (HJ7.out.below hb8)
      have HD8 := Lib.hid (HD6.out.below hb8)
      have HO8 := Lib.hid (own_mono hO8 (Nat.zero_le _))
      have HF8 := Lib.hid (HF6.out.trans (Fr.of_below [b, j] hb8))
      have p3 : w8.cell? ⟨j, 3, none⟩ = some (.int .i64 (J.t : Nat)) := HJ8.out.blk.cell 3
      have p4 : w8.cell? ⟨j, 4, none⟩ = some v6 := HJ8.out.blk.cell 4
      have g3 := HJ8.out.blk.frozen 3
      have g4 := HJ8.out.blk.frozen 4
      clear q2 q3 q4 f2 f3 f4 HP hO8 hb8 HJ7 HI6 HF6 HD6
      go_wp2
      go_ret
      rw [E3.out]
      have hf : Fr [j] w8 ((w8.setCell ⟨j, 3, none⟩ (.int .i64 ((J.t + 1 : Nat) : Int))).setCell ⟨j, 4, none⟩ (.slice A8 l.length c8)) := (Fr.setCell w8 j 3 _).trans (Fr.setCell _ j 4 _)
      refine ⟨rfl, HD8.out.frj ⟨v6, HJ8.out⟩ hf, ⟨_, (HJ8.out.blk.set_ 3 _).set_ 4 _, Own8.fr (l := l) HO8.out hf HJ8.out.at_, ?_⟩, HF8.out.trans (hf.mono (T := [b, j]) (fun k hk _ => by simp at hk; subst hk; simp))⟩
      show J.t + 1 ≤ 2147483647
      omega
    · rw [if_neg h0] at E3
      have hne : (er != 0) = true := by simpa using h0
      clear h0 q3 q4 f3 f4 HI6
      go_wp2
      go_ret
      rw [E3.out]
      have hf : Fr [j] w6 (w6.setCell ⟨j, 2, none⟩ (.bool true)) := Fr.setCell w6 j 2 _
      exact ⟨rfl, HD6.out.frj ⟨v6, HJ7.out⟩ hf, ⟨_, HJ7.out.blk.set_ 2 _, HJ7.out.o.fr hf HJ7.out.at_, HJ7.out.t⟩, HF6.out.trans (hf.mono (T := [b, j]) (fun k hk _ => by simp at hk; subst hk; simp))⟩

theorem save_any {w : World} {j b : Nat} {J : Pl.Jn} {D : Pl.Dk} (h : Jnl w j b J) (k : Dsk w b D) (A : Option Addr) (l : Pl.Bs) (n c : Nat) (hn : l.length = n) (hnc : n ≤ c) (hc : c ≤ maxLen) (hnil : A = none → c = 0) (hI : Rows u8L 1 w A l) :
    Calls Try.prog 24 #[ptr j, .slice A n c] w fun e w' => e = .returned (.int .i64 (Pl.svE D J l)) ∧ Dsk w' b (Pl.svD D J l) ∧ Jnl w' j b (Pl.svJ D J l) ∧ Fr [b, j] w w' := by
  cases hd : Pl.ded D J with
  | true =>
    have e1 : Pl.svE D J l = 92 ∧ Pl.svD D J l = D ∧ Pl.svJ D J l = J := by unfold Pl.svE Pl.svD Pl.svJ; rw [hd]; exact ⟨rfl, rfl, rfl⟩
    rw [e1.1, e1.2.1, e1.2.2]
    exact (save_dead h k A n c hd).mono fun e w' ⟨he, hb⟩ => ⟨he, k.below hb, h.below hb, Fr.of_below _ hb⟩
  | false =>
    cases hL : Pl.lim J l with
    | true =>
      have e1 : Pl.svE D J l = 4 ∧ Pl.svD D J l = D ∧ Pl.svJ D J l = J := by unfold Pl.svE Pl.svD Pl.svJ; rw [hd, hL]; exact ⟨rfl, rfl, rfl⟩
      rw [e1.1, e1.2.1, e1.2.2]
      exact (save_lim h k A l n c hn (by unfold maxLen at hc; omega) hd hL).mono fun e w' ⟨he, hb⟩ => ⟨he, k.below hb, h.below hb, Fr.of_below _ hb⟩
    | false => exact save_go h k A l n c hn hnc hnil hI hd hL
end Go.Proofs.Ytalfffkcmddakab
