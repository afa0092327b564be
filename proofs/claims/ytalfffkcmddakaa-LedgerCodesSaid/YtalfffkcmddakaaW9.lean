/- The document's number, Decode. -/
import Derived.Test.YtalfffkcmddakaaW8
import Derived.Test.YtalfffkcmddakaaW4
namespace Go.Proofs.Ytalfffkcmddakaa
open Go.RowKit Go.Shelf

set_option maxRecDepth 100000 in
set_option maxHeartbeats 2000000 in
theorem dnum_any (b o c : Nat) (l : Pl.Bs) (hn : l.length = 4) (w : World) (hI : In13 w b o l) :
    Calls Try.prog 78 #[.slice (some ⟨b, o, none⟩) 4 c] w fun e w' => e = .returned (.int .i64 ((Pl.num l : Nat) : Int)) ∧ w' = w := by
  have HI := Lib.hid hI
  have HN := Lib.hid hn
  clear hI hn
  go_enter Try.func78, Try.ntmps78
  go_wp2
  go_loop [3, 5, 8] (fun x _ i => ∃ q : Nat, q ≤ 4 ∧ i = .int .i64 q ∧ x = .int .i64 ((Pl.num (l.take q) : Nat) : Int)) (fun _ _ i => 4 - (intOf i).toNat)
  case atStart => exact ⟨0, by omega, rfl, rfl⟩
  case round =>
    obtain ⟨q, hq, rfl, rfl⟩ := hrel
    by_cases hlt : q < 4
    · have hkl : q < l.length := by rw [HN.out]; omega
      have q0 : w.cell? ⟨b, o + q, none⟩ = some (.int .u8 (l[q].toNat : Int)) := by
        have := HI.out q hkl 0 _ rfl
        rw [Nat.mul_one, Nat.add_zero] at this
        exact this
      have hx : Pl.num (l.take q) < 16777216 := by
        have h1 := Pl.num_lt (l.take q) 0
        rw [List.length_take, Nat.min_eq_left (by omega)] at h1
        have h2 : 256 ^ q ≤ 256 ^ 3 := Nat.pow_le_pow_right (by omega) (by omega)
        unfold Pl.num
        omega
      have hy : l[q].toNat < 256 := l[q].toNat_lt
      have HS : Hid (Pl.num (l.take (q + 1)) = Pl.num (l.take q) * 256 + l[q].toNat) := Lib.hid (Pl.num_take_succ _ q hkl)
      generalize Pl.num (l.take q) = x at *
      generalize l[q].toNat = y at *
      have k1 : IntKind.i64.wrap (y : Int) = (y : Int) := IntWalk.i64_in _ (by omega)
      have k2 : IntKind.i64.wrap ((x : Int) * 256) = (x : Int) * 256 := IntWalk.i64_in _ (by omega)
      have k3 : IntKind.i64.wrap ((x : Int) * 256 + (y : Int)) = (x : Int) * 256 + (y : Int) := IntWalk.i64_in _ (by omega)
      clear hkl
      go_wp2
      go_round
      case rel => exact ⟨q + 1, by omega, by go_num, by rw [HS.out]; first | rfl | (congr 1; omega) | simp⟩
      case measure => simp [intOf]; omega
    · obtain rfl : q = 4 := by omega
      have HT : Hid (l.take 4 = l) := Lib.hid (List.take_of_length_le (by rw [HN.out]; exact Nat.le_refl _))
      go_wp2
      go_ret
      exact ⟨by rw [HT.out]; rfl, rfl⟩
theorem piece_in {W : World} {b off j : Nat} {l : Pl.Bs} (h : In13 W b off l) : In13 W b (off + j) ((l.drop j).take 4) := fun i hi => by
  have h1 : i < 4 ∧ j + i < l.length := by
    rw [List.length_take, List.length_drop] at hi
    omega
  have e : ((l.drop j).take 4)[i] = l[j + i]'h1.2 := by rw [List.getElem_take, List.getElem_drop]
  have h2 := h (j + i) h1.2
  rw [e, show off + j + i * 1 = off + (j + i) * 1 by omega]
  exact h2
theorem piece_len {j : Nat} {l : Pl.Bs} (h : j + 4 ≤ l.length) : ((l.drop j).take 4).length = 4 := by rw [List.length_take, List.length_drop]; omega
theorem Pl.de1_pce (l : Pl.Bs) (k j : Nat) (hj : j = k * 13) (h : j + 13 ≤ l.length) : Pl.de1 (Pl.pce l k) = ⟨((l[j]'(by omega)).toNat : Int), (Pl.num ((l.drop (j + 1)).take 4) : Nat), (Pl.num ((l.drop (j + 5)).take 4) : Nat), (Pl.num ((l.drop (j + 9)).take 4) : Nat)⟩ := by
  subst hj
  unfold Pl.de1 Pl.pce
  have e0 : (((l.drop (k * 13)).take 13).getD 0 0) = l[k * 13]'(by omega) := by
    rw [List.getD_eq_getElem?_getD, List.getElem?_take_of_lt (by omega), List.getElem?_drop, Nat.add_zero, List.getElem?_eq_getElem (by omega)]
    rfl
  have e1 : (((l.drop (k * 13)).take 13).drop 1).take 4 = (l.drop (k * 13 + 1)).take 4 := by rw [List.drop_take, List.drop_drop, List.take_take]; rfl
  have e5 : (((l.drop (k * 13)).take 13).drop 5).take 4 = (l.drop (k * 13 + 5)).take 4 := by rw [List.drop_take, List.drop_drop, List.take_take]; rfl
  have e9 : (((l.drop (k * 13)).take 13).drop 9).take 4 = (l.drop (k * 13 + 9)).take 4 := by rw [List.drop_take, List.drop_drop, List.take_take]; rfl
  rw [e0, e1, e5, e9]
set_option maxRecDepth 100000 in
set_option maxHeartbeats 32000000 in
theorem ddecode2_b (A : Option Addr) (l : Pl.Bs) (c n : Nat) (hn : l.length = n) (hnc : n ≤ c) (w : World) (hI : Rows u8L 1 w A l) :
    Calls Try.prog 41 #[.slice A n c] w fun e w' => ∃ v, e = .returned (.tuple #[v, .int .i64 (Pl.dcE l)]) ∧ w'.ownsRow w.heap.size 24 4 v (Pl.dcV l).length (flt enL (Pl.dcV l)) ∧ Below w.heap.size w w' := by
  by_cases hno : n % 13 ≠ 0 ∨ 2600 < n
  · have h1 := Pl.dc_no (Pl.okd_no (l := l) (by rw [hn]; exact hno))
    rw [h1.1, h1.2]
    by_cases h13 : n % 13 = 0
    · have t1 : Int.tmod (n : Int) 13 = 0 := by rw [Int.tmod_eq_emod_of_nonneg (by omega)]; omega
      have t2 : (2600 : Int) < (n : Int) := by omega
      have d2 : decide ((2600 : Int) < (n : Int)) = true := by simp; omega
      clear h1 hno hI hn hnc h13
      go_enter Try.func41, Try.ntmps41
      go_wp2
      go_ret2
      exact ⟨_, rfl, World.ownsRow_nil _ _ _ _, Below.refl _ _⟩
    · have t1 : ¬ Int.tmod (n : Int) 13 = 0 := by rw [Int.tmod_eq_emod_of_nonneg (by omega)]; omega
      have t2 : (Int.tmod (n : Int) 13 != 0) = true := by simp [t1]
      have t3 : (Int.tmod (n : Int) 13 == 0) = false := by simp [t1]
      clear h1 hno hI hn hnc h13
      go_enter Try.func41, Try.ntmps41
      go_wp2
      go_ret2
      exact ⟨_, rfl, World.ownsRow_nil _ _ _ _, Below.refl _ _⟩
  obtain ⟨m, hM⟩ : ∃ m, n = m * 13 := ⟨n / 13, by omega⟩
  have hm : m ≤ 200 := by omega
  have t1 : Int.tmod (n : Int) 13 = 0 := by rw [Int.tmod_eq_emod_of_nonneg (by omega)]; omega
  have t2 : ¬ (2600 : Int) < (n : Int) := by omega
  have d2 : decide ((2600 : Int) < (n : Int)) = false := by simp; omega
  obtain ⟨b, off, hA, hB⟩ := rows8_cases hI (hn.trans hM)
  have HA := Lib.hid hA
  have HBY : Hid (0 < m → In13 w b off l) := Lib.hid hB
  have HM := Lib.hid hM
  have HN := Lib.hid hn
  have HNC := Lib.hid hnc
  have HI := Lib.hid hI
  have hokd := Pl.okd_at (hn.trans hM) hm
  have H39 := Lib.hid (fun A' c' W' (hc : m ≤ c') h => dencode2_b A' (Pl.decN l m) c' m (Pl.decN_len l m) hc (by unfold maxLen; omega) W' h)
  have hag := Pl.again (l := l) (by rw [hn]; omega)
  have hall := Pl.encL_all (l := l) (by rw [hn]; omega)
  rw [show l.length / 13 = m by omega] at hag hall
  have HOKD := Lib.hid hokd
  have HAG := Lib.hid hag
  obtain ⟨i0, hi, hz0, hz1, hz2⟩ := info_parts infoEn3
  have hn26 : n ≤ 2600 := by omega
  clear hA hB hI hM hn hnc hokd hag hall hno
  go_enter Try.func41, Try.ntmps41
  go_wp2
  go_loopw [4, 5] (fun v i wr => ∃ (k j : Nat) (lv : Value), k ≤ m ∧ j = k * 13 ∧ lv = v ∧ i = .int .i64 j ∧ Hid (wr.ownsRow w.heap.size 24 4 lv k (flt enL (Pl.decN l k))) ∧ Hid (Below w.heap.size w wr)) (fun _ i _ => n - (intOf i).toNat)
  case atStart => exact ⟨0, 0, _, Nat.zero_le _, rfl, rfl, rfl, Lib.hid (World.ownsRow_nil _ _ _ _), Lib.hid (Below.refl _ _)⟩
  case round =>
    obtain ⟨k, j, lv, hk, hj, rfl, rfl, HO, HW⟩ := hrel
    obtain ⟨wo, rfl⟩ : ∃ wo, wo = wr := ⟨_, rfl⟩
    by_cases hlt : k < m
    · obtain ⟨rfl, hbw⟩ := HA.out (by omega)
      have hj13 : j + 13 ≤ n := by have := HM.out; omega
      have hnc := HNC.out
      have hjI : (j : Int) < (n : Int) := by omega
      have hjl : j < l.length := by rw [HN.out]; omega
      have hIN : In13 wo b off l := (HBY.out (by omega)).below hbw HW.out
      have g1 : IntKind.i64.wrap ((j : Int) + 1) = (j : Int) + 1 := IntWalk.i64_in _ (by omega)
      have g5 : IntKind.i64.wrap ((j : Int) + 5) = (j : Int) + 5 := IntWalk.i64_in _ (by omega)
      have g9 : IntKind.i64.wrap ((j : Int) + 9) = (j : Int) + 9 := IntWalk.i64_in _ (by omega)
      have g13 : IntKind.i64.wrap ((j : Int) + 13) = (j : Int) + 13 := IntWalk.i64_in _ (by omega)
      have s1 : ((j : Int) + 1).toNat = j + 1 := by omega
      have s5 : ((j : Int) + 5).toNat = j + 5 := by omega
      have s9 : ((j : Int) + 9).toNat = j + 9 := by omega
      have s13 : ((j : Int) + 13).toNat = j + 13 := by omega
      have p1 : (0 : Int) ≤ (j : Int) + 1 := by omega
      have p5 : (0 : Int) ≤ (j : Int) + 5 := by omega
      have p9 : (0 : Int) ≤ (j : Int) + 9 := by omega
      have r5 : (j : Int) + 5 ≤ (c : Int) := by omega
      have r9 : (j : Int) + 9 ≤ (c : Int) := by omega
      have r13 : (j : Int) + 13 ≤ (c : Int) := by omega
      have x1 : (j : Int) + 1 ≤ (j : Int) + 5 := by omega
      have x5 : (j : Int) + 5 ≤ (j : Int) + 9 := by omega
      have x9 : (j : Int) + 9 ≤ (j : Int) + 13 := by omega
      have v1 : ¬ c = j + 1 := by omega
      have v5 : ¬ c = j + 5 := by omega
      have v9 : ¬ c = j + 9 := by omega
      have y1 : j + 5 - (j + 1) = 4 := by omega
      have y5 : j + 9 - (j + 5) = 4 := by omega
      have y9 : j + 13 - (j + 9) = 4 := by omega
      have hl13 : j + 13 ≤ l.length := by rw [HN.out]; exact hj13
      have HN1 : Hid (∀ W c', In13 W b off l → Calls Try.prog 78 #[.slice (some ⟨b, off + (j + 1), none⟩) 4 c'] W fun e w' => e = .returned (.int .i64 ((Pl.num ((l.drop (j + 1)).take 4) : Nat) : Int)) ∧ w' = W) :=
        Lib.hid (fun W c' h => dnum_any b (off + (j + 1)) c' _ (piece_len (by omega)) W (piece_in h))
      have HN5 : Hid (∀ W c', In13 W b off l → Calls Try.prog 78 #[.slice (some ⟨b, off + (j + 5), none⟩) 4 c'] W fun e w' => e = .returned (.int .i64 ((Pl.num ((l.drop (j + 5)).take 4) : Nat) : Int)) ∧ w' = W) :=
        Lib.hid (fun W c' h => dnum_any b (off + (j + 5)) c' _ (piece_len (by omega)) W (piece_in h))
      have HN9 : Hid (∀ W c', In13 W b off l → Calls Try.prog 78 #[.slice (some ⟨b, off + (j + 9), none⟩) 4 c'] W fun e w' => e = .returned (.int .i64 ((Pl.num ((l.drop (j + 9)).take 4) : Nat) : Int)) ∧ w' = W) :=
        Lib.hid (fun W c' h => dnum_any b (off + (j + 9)) c' _ (piece_len (by omega)) W (piece_in h))
      have HDE := Lib.hid (Pl.de1_pce l k j hj hl13)
      have HDS := Lib.hid (Pl.decN_succ l k)
      have HC0 : Hid (∀ W, In13 W b off l → W.cell? ⟨b, off + j, none⟩ = some (.int .u8 (l[j].toNat : Int))) := Lib.hid (fun W h => by
        have := h j hjl 0 _ rfl
        rw [Nat.mul_one, Nat.add_zero] at this
        exact this)
      have hz := u8_lt l[j]
      have HJ := Lib.hid hj
      generalize Pl.num ((l.drop (j + 1)).take 4) = n1 at *
      generalize Pl.num ((l.drop (j + 5)).take 4) = n5 at *
      generalize Pl.num ((l.drop (j + 9)).take 4) = n9 at *
      generalize l[j].toNat = z at *
      have kz : IntKind.i64.wrap (z : Int) = (z : Int) := IntWalk.i64_in _ (by omega)
      clear hj hl13 hjl
      go_wp2
      refine wp_region_held (S := fun W => In13 W b off l) (by kernel_rfl) ?_
      change wpAnyH _ _ _ _ _ _ _ _ (World.drew _)
      have hS : In13 wo.drew b off l := hIN
      have HWd : Hid (Below w.heap.size w wo.drew) := Lib.hid HW.out.drew
      have HOd : Hid (wo.drew.ownsRow w.heap.size 24 4 lv k (flt enL (Pl.decN l k))) := Lib.hid HO.out
      have hbV : b < wo.drew.heap.size := Nat.lt_of_lt_of_le hbw HW.out.size
      clear hIN HW HO
      generalize wo.drew = V at *
      refine wpAnyH_take (i := 0) (v := ?_) rfl (by kernel_rfl) (by decide +kernel) (by decide +kernel) (fun _ _ _ h => h) (Or.inl ⟨by rfl, ?_⟩) hS ?_
      rotate_left
      · intro w' hS; first | (go_simp; done) | (go_simp; with_reducible rfl)
      refine wpAnyH_take (i := 1) (v := ?_) rfl (by kernel_rfl) (by decide +kernel) (by decide +kernel) (fun _ _ _ h => h) (Or.inl ⟨by rfl, ?_⟩) hS ?_
      rotate_left
      · intro w' hS; first | (go_simp; done) | (go_simp; with_reducible rfl)
      refine wpAnyH_take (i := 2) (v := ?_) rfl (by kernel_rfl) (by decide +kernel) (by decide +kernel) (fun _ _ _ h => h) (Or.inl ⟨by rfl, ?_⟩) hS ?_
      rotate_left
      · intro w' hS; first | (go_simp; done) | (go_simp; with_reducible rfl)
      refine wpAnyH_take (i := 3) (v := ?_) rfl (by kernel_rfl) (by decide +kernel) (by decide +kernel) (fun _ _ _ h => h) (Or.inl ⟨by rfl, ?_⟩) hS ?_
      rotate_left
      · intro w' hS; first | (go_simp; done) | (go_simp; with_reducible rfl)
      refine wpAnyH_take (i := 4) (v := ?_) rfl (by kernel_rfl) (by decide +kernel) (by decide +kernel) (fun _ _ _ h => h) (Or.inl ⟨by rfl, ?_⟩) hS ?_
      rotate_left
      · intro w' hS; have c0 := HC0.out w' hS; first | (go_simp; done) | (go_simp; with_reducible rfl)
      refine wpAnyH_take (i := 5) (v := ?_) rfl (by kernel_rfl) (by decide +kernel) (by decide +kernel) (fun _ _ _ h => h) (Or.inl ⟨by rfl, ?_⟩) hS ?_
      rotate_left
      · intro w' hS; first | (go_simp; done) | (go_simp; with_reducible rfl)
      refine wpAnyH_take (i := 6) (v := ?_) rfl (by kernel_rfl) (by decide +kernel) (by decide +kernel) (fun _ _ _ h => h) (Or.inl ⟨by rfl, ?_⟩) hS ?_
      rotate_left
      · intro w' hS; first | (go_simp; done) | (go_simp; with_reducible rfl)
      refine wpAnyH_take (i := 7) (v := ?_) rfl (by kernel_rfl) (by decide +kernel) (by decide +kernel) (fun _ _ _ h => h) (Or.inl ⟨by rfl, ?_⟩) hS ?_
      rotate_left
      · intro w' hS; first | (go_simp; done) | (go_simp; with_reducible rfl)
      refine wpAnyH_take (i := 8) (v := ?_) rfl (by kernel_rfl) (by decide +kernel) (by decide +kernel) (fun _ _ _ h => h) (Or.inl ⟨by rfl, ?_⟩) hS ?_
      rotate_left
      · intro w' hS; first | (go_simp; done) | (go_simp; with_reducible rfl)
      refine wpAnyH_take (i := 9) (v := ?_) rfl (by kernel_rfl) (by decide +kernel) (by decide +kernel) (fun _ _ _ h => h) (Or.inl ⟨by rfl, ?_⟩) hS ?_
      rotate_left
      · intro w' hS; first | (go_simp; done) | (go_simp; with_reducible rfl)
      refine wpAnyH_take (i := 10) (v := ?_) rfl (by kernel_rfl) (by decide +kernel) (by decide +kernel) (fun _ _ _ h => h) (Or.inl ⟨by rfl, ?_⟩) hS ?_
      rotate_left
      · intro w' hS; first | (go_simp; done) | (go_simp; with_reducible rfl)
      refine wpAnyH_take (i := 11) (v := ?_) rfl (by kernel_rfl) (by decide +kernel) (by decide +kernel) (fun _ _ _ h => h) (Or.inl ⟨by rfl, ?_⟩) hS ?_
      rotate_left
      · intro w' hS; first | (go_simp; done) | (go_simp; with_reducible rfl)
      refine wpAnyH_take (i := 13) (v := ?_) rfl (by kernel_rfl) (by decide +kernel) (by decide +kernel) (fun _ _ _ h => h) (Or.inl ⟨by rfl, ?_⟩) hS ?_
      rotate_left
      · intro w' hS; first | (go_simp; done) | (go_simp; with_reducible rfl)
      refine wpAnyH_take (i := 14) (v := ?_) rfl (by kernel_rfl) (by decide +kernel) (by decide +kernel) (fun _ _ _ h => h) (Or.inl ⟨by rfl, ?_⟩) hS ?_
      rotate_left
      · intro w' hS; first | (go_simp; done) | (go_simp; with_reducible rfl)
      refine wpAnyH_take (i := 15) (v := ?_) rfl (by kernel_rfl) (by decide +kernel) (by decide +kernel) (fun _ _ _ h => h) (Or.inl ⟨by rfl, ?_⟩) hS ?_
      rotate_left
      · intro w' hS; first | (go_simp; done) | (go_simp; with_reducible rfl)
      refine wpAnyH_take (i := 16) (v := ?_) rfl (by kernel_rfl) (by decide +kernel) (by decide +kernel) (fun _ _ _ h => h) (Or.inl ⟨by rfl, ?_⟩) hS ?_
      rotate_left
      · intro w' hS; first | (go_simp; done) | (go_simp; with_reducible rfl)
      refine wpAnyH_take (i := 17) (v := ?_) rfl (by kernel_rfl) (by decide +kernel) (by decide +kernel) (fun _ _ _ h => h) (Or.inl ⟨by rfl, ?_⟩) hS ?_
      rotate_left
      · intro w' hS; first | (go_simp; done) | (go_simp; with_reducible rfl)
      refine wpAnyH_take (i := 18) (v := ?_) rfl (by kernel_rfl) (by decide +kernel) (by decide +kernel) (fun _ _ _ h => h) (Or.inl ⟨by rfl, ?_⟩) hS ?_
      rotate_left
      · intro w' hS; first | (go_simp; done) | (go_simp; with_reducible rfl)
      refine wpAnyH_take (i := 20) (v := ?_) rfl (by kernel_rfl) (by decide +kernel) (by decide +kernel) (fun _ _ _ h => h) (Or.inl ⟨by rfl, ?_⟩) hS ?_
      rotate_left
      · intro w' hS; first | (go_simp; done) | (go_simp; with_reducible rfl)
      refine wpAnyH_take (i := 21) (v := ?_) rfl (by kernel_rfl) (by decide +kernel) (by decide +kernel) (fun _ _ _ h => h) (Or.inl ⟨by rfl, ?_⟩) hS ?_
      rotate_left
      · intro w' hS; first | (go_simp; done) | (go_simp; with_reducible rfl)
      refine wpAnyH_take (i := 22) (v := ?_) rfl (by kernel_rfl) (by decide +kernel) (by decide +kernel) (fun _ _ _ h => h) (Or.inl ⟨by rfl, ?_⟩) hS ?_
      rotate_left
      · intro w' hS; first | (go_simp; done) | (go_simp; with_reducible rfl)
      refine wpAnyH_take (i := 23) (v := ?_) rfl (by kernel_rfl) (by decide +kernel) (by decide +kernel) (fun _ _ _ h => h) (Or.inl ⟨by rfl, ?_⟩) hS ?_
      rotate_left
      · intro w' hS; first | (go_simp; done) | (go_simp; with_reducible rfl)
      refine wpAnyH_take (i := 24) (v := ?_) rfl (by kernel_rfl) (by decide +kernel) (by decide +kernel) (fun _ _ _ h => h) (Or.inl ⟨by rfl, ?_⟩) hS ?_
      rotate_left
      · intro w' hS; first | (go_simp; done) | (go_simp; with_reducible rfl)
      refine wpAnyH_take (i := 25) (v := ?_) rfl (by kernel_rfl) (by decide +kernel) (by decide +kernel) (fun _ _ _ h => h) (Or.inl ⟨by rfl, ?_⟩) hS ?_
      rotate_left
      · intro w' hS; first | (go_simp; done) | (go_simp; with_reducible rfl)
      refine wpAnyH_all (rs := [12]) (by decide +kernel) (by simp) ?_
      intro i0 hi0
      obtain rfl := List.mem_singleton.1 hi0
      refine wpOp_goE rfl rfl (fun K hK => ?_)
      go_simp
      refine (HN1.out V _ hS).mono ?_
      rintro e w5 ⟨rfl, hw⟩
      rw [hw]
      clear hw w5
      refine hK _ _ ⟨hS, ?_⟩
      clear hK K
      refine wpAnyH_all (rs := [19]) (by decide +kernel) (by simp) ?_
      intro i0 hi0
      obtain rfl := List.mem_singleton.1 hi0
      refine wpOp_goE rfl rfl (fun K hK => ?_)
      go_simp
      refine (HN5.out V _ hS).mono ?_
      rintro e w5 ⟨rfl, hw⟩
      rw [hw]
      clear hw w5
      refine hK _ _ ⟨hS, ?_⟩
      clear hK K
      refine wpAnyH_all (rs := [26]) (by decide +kernel) (by simp) ?_
      intro i0 hi0
      obtain rfl := List.mem_singleton.1 hi0
      refine wpOp_goE rfl rfl (fun K hK => ?_)
      go_simp
      refine (HN9.out V _ hS).mono ?_
      rintro e w5 ⟨rfl, hw⟩
      rw [hw]
      clear hw w5
      refine hK _ _ ⟨hS, ?_⟩
      clear hK K
      refine wpAnyH_take (i := 27) (v := ?_) rfl (by kernel_rfl) (by decide +kernel) (by decide +kernel) (fun _ _ _ h => h) (Or.inl ⟨by rfl, ?_⟩) hS ?_
      rotate_left
      · intro w' hS; first | (go_simp; done) | (go_simp; with_reducible rfl)
      have hO1 := HOd.out.alloc (.cells (enL ⟨(z : Int), n1, n5, n9⟩).toArray 24)
      have hW1 := HWd.out.alloc HWd.out.size (.cells (enL ⟨(z : Int), n1, n5, n9⟩).toArray 24)
      refine wpAnyH_all (rs := [28]) (by decide +kernel) (by simp) ?_
      intro i0' hi0
      obtain rfl := List.mem_singleton.1 hi0
      refine wpOp_goE rfl rfl (fun K hK => ?_)
      go_simp
      refine hK _ _ ⟨hS.below hbV ((Below.refl _ _).alloc (Nat.le_refl _) (.cells (enL ⟨(z : Int), n1, n5, n9⟩).toArray 24)), ?_⟩
      clear hK K
      refine wpAnyH_all (rs := [29]) (by decide +kernel) (by simp) ?_
      intro i0' hi0
      obtain rfl := List.mem_singleton.1 hi0
      refine wpOp_goE rfl rfl (fun K hK => ?_)
      refine wp_append_own _ _ _ 22 rfl w.heap.size 24 i0 _ 4 32 Try.underlying22 hi hz0 hz1 hz2 rfl (by decide) lv k _ rfl hO1 ⟨V.heap.size, 0, none⟩ 1 1 (enL ⟨(z : Int), n1, n5, n9⟩) rfl rfl (new_cells' _ _ _ rfl) (enL_one _) (by unfold maxLen; omega) (by omega) hW1.size ?_
      intro v' w' hown' hgrow _
      have hBg := (Below.refl w.heap.size (V.alloc (.cells (enL ⟨(z : Int), n1, n5, n9⟩).toArray 24))).grown hgrow hW1.size (fun s e => (hO1.lt s e).1)
      have hSa : In13 (V.alloc (.cells (enL ⟨(z : Int), n1, n5, n9⟩).toArray 24)) b off l := hS.below hbV ((Below.refl _ _).alloc (Nat.le_refl _) _)
      have hS2 : In13 w' b off l := fun i hi t u hu => (hBg.cell (p := ⟨b, _, none⟩) hbw).trans (hSa i hi t u hu)
      have HW2 := Lib.hid (hW1.trans hBg)
      have HO2 := Lib.hid hown'
      refine hK _ _ ⟨hS2, ?_⟩
      clear hK K hS hSa hBg hgrow hown' hO1 hW1
      refine wpAnyH_all (rs := [30]) (by decide +kernel) (by simp) ?_
      intro i0' hi0
      obtain rfl := List.mem_singleton.1 hi0
      refine wpOp_goE rfl rfl (fun K hK => ?_)
      go_simp
      refine hK _ _ ⟨hS2, ?_⟩
      clear hK K
      refine wpAnyH_done (by decide +kernel) ?_ _
      clear hS2
      go_wp2
      go_roundw
      case rel => exact ⟨k + 1, j + 13, _, by omega, by have := HJ.out; omega, rfl, by go_num, Lib.hid (by rw [HDS.out, HDE.out, flt_append, flt_one]; exact HO2.out), HW2⟩
      case measure => simp [intOf]; omega
    · obtain rfl : k = m := by omega
      obtain rfl : j = n := by have := HM.out; omega
      clear hj
      obtain ⟨Av, cv, rfl, hRv, hcv, _, _⟩ := rows_own2 (xs := Pl.decN l k) (Pl.decN_len l k) HO.out
      have HE := Lib.hid (H39.out Av cv wo hcv hRv)
      have HOL := Lib.hid HO.out
      have hjI : ¬ (j : Int) < (j : Int) := by omega
      have HI2 := Lib.hid (HI.out.below HW.out)
      obtain ⟨y, hy⟩ : ∃ y, Pl.vB (Pl.decN l k) = y := ⟨_, rfl⟩
      have hko := HOKD.out
      rw [hy] at hko
      clear HO hRv HI HBY HA H39 HOKD
      cases y
      case false =>
        have h1 := Lib.hid (Pl.dc_no (show Pl.okD l = false from hko))
        have e1 : Pl.cdE (Pl.decN l k) = 90 := by unfold Pl.cdE; rw [hy]; rfl
        have e2 : Pl.cdV (Pl.decN l k) = [] := by unfold Pl.cdV; rw [hy]; rfl
        rw [e1, e2] at HE
        clear e1 e2 hy hko HAG
        go_wp2_with fail
        refine HE.out.mono ?_
        rintro e w3 ⟨v3, rfl, _, hb3⟩
        have HB3 := Lib.hid (HW.out.trans (hb3.mono HW.out.size))
        clear hb3 HE
        go_wp2
        go_ret2
        rw [h1.out.1, h1.out.2]
        exact ⟨_, rfl, World.ownsRow_nil _ _ _ _, HB3.out⟩
      case true =>
        have hvb := Pl.vb_iff.1 hy
        have hcd := Pl.cd_ok hvb
        rw [hcd.1, hcd.2] at HE
        have hag := HAG.out hvb
        by_cases hs : Pl.srt (Pl.decN l k) = Pl.decN l k
        · have h1 := Lib.hid (Pl.dc_yes (m := k) (show Pl.okD l = true by rw [hko, decide_eq_true hs]; rfl) (HN.out.trans HM.out))
          rw [hag.2 hs, HN.out] at HE
          have HDL := Lib.hid (Pl.decN_len l k)
          clear hs hag hcd hvb hy hko HAG
          go_wp2_with fail
          refine HE.out.mono ?_
          rintro e w3 ⟨v3, rfl, hO3, hb3⟩
          obtain ⟨Ap, cp, rfl, hRp⟩ := rows_ownb HN.out hO3
          have HB3 := Lib.hid (HW.out.trans (hb3.mono HW.out.size))
          have HOL3 := Lib.hid (own_keep HOL.out hb3)
          have cv1 := conv_rows hRp j cp HN.out
          have cv2 := conv_rows (HI2.out.below hb3) j c HN.out
          generalize str l = S at *
          have hSS : (S.toList == S.toList) = true := by simp
          clear hb3 HE hO3 hRp HOL
          go_wp2
          go_ret2
          rw [h1.out.1, h1.out.2, HDL.out]
          exact ⟨_, rfl, HOL3.out, HB3.out⟩
        · have h1 := Lib.hid (Pl.dc_no (show Pl.okD l = false by rw [hko, decide_eq_false hs]; rfl))
          obtain ⟨X, hX⟩ : ∃ X, Pl.encL (Pl.srt (Pl.decN l k)) = X := ⟨_, rfl⟩
          have hne : X ≠ l := fun h => hs (hag.1 (hX.trans h))
          obtain ⟨x, hx⟩ : ∃ x, X.length = x := ⟨_, rfl⟩
          rw [hX, hx] at HE
          have HX := Lib.hid hx
          have HNE := Lib.hid hne
          clear hs hag hcd hvb hy hko HAG hX hx hne
          go_wp2_with fail
          refine HE.out.mono ?_
          rintro e w3 ⟨v3, rfl, hO3, hb3⟩
          obtain ⟨Ap, cp, rfl, hRp⟩ := rows_ownb HX.out hO3
          have HB3 := Lib.hid (HW.out.trans (hb3.mono HW.out.size))
          have cv1 := conv_rows hRp x cp HX.out
          have cv2 := conv_rows (HI2.out.below hb3) j c HN.out
          have hSS : ((str X).toList == (str l).toList) = false := by
            rw [ByteArray.toList_mk, ByteArray.toList_mk]
            exact beq_false_of_ne HNE.out
          generalize str l = S at *
          generalize str X = S' at *
          clear hb3 HE hO3 hRp HOL
          go_wp2
          go_ret2
          rw [h1.out.1, h1.out.2]
          exact ⟨_, rfl, World.ownsRow_nil _ _ _ _, HB3.out⟩
end Go.Proofs.Ytalfffkcmddakaa
