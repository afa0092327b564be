/- keeping and takenOver of the sanity checks. -/
import Derived.Test.YtalfffkcmddakaaP13
import Derived.Test.YtalfffkcmddakaaG2
import Derived.Test.YtalfffkcmddakaaE7
import Derived.Test.YtalfffkcmddakaaQ5
namespace Go.Proofs.Ytalfffkcmddakaa
open Go.RowKit Go.Shelf

abbrev keepL : List Pl.En := [⟨1, 7, 3, 1000⟩, ⟨2, 7, 5, 400⟩]
set_option maxRecDepth 100000 in
set_option maxHeartbeats 2000000 in
theorem keeping_b (w : World) : Calls Try.prog 43 #[] w fun e w' => e = .returned (.bool true) ∧ Below w.heap.size w w' := by
  have hB := (Below.refl w.heap.size w).alloc (Nat.le_refl _) (.cells #[.int .i64 1, .int .i64 7, .int .i64 3, .int .i64 1000, .int .i64 2, .int .i64 7, .int .i64 5, .int .i64 400] 24)
  have hO : (w.alloc (.cells #[.int .i64 1, .int .i64 7, .int .i64 3, .int .i64 1000, .int .i64 2, .int .i64 7, .int .i64 5, .int .i64 400] 24)).ownsRow w.heap.size 24 4 (.slice (some ⟨w.heap.size, 0, none⟩) 2 2) 2 (flt enL keepL) :=
    ⟨rfl, .inr ⟨_, 2, _, rfl, Nat.le_refl _, heap_new w _, Nat.le_refl _, by decide, rfl, rfl⟩⟩
  obtain ⟨A, c, e, hR, _⟩ := rows_own2 (xs := keepL) rfl hO
  obtain ⟨rfl, rfl⟩ : A = some ⟨w.heap.size, 0, none⟩ ∧ c = 2 := by cases e; exact ⟨rfl, rfl⟩
  have H1 := balance2_b (some ⟨w.heap.size, 0, none⟩) keepL 2 2 rfl (by decide) 5 _ hR
  rw [show Pl.baV keepL 5 = 600 by decide, show Pl.baE keepL 5 = 0 by decide] at H1
  have HB := Lib.hid hB
  have H1 := Lib.hid H1
  clear hO hR hB e
  go_enter Try.func43, Try.ntmps43
  go_wp2_with fail
  refine H1.out.mono ?_
  rintro e w1 ⟨rfl, hb1⟩
  have HB1 := Lib.hid (HB.out.trans (hb1.mono HB.out.size))
  clear hb1 H1
  go_wp2
  go_ret
  exact ⟨rfl, HB1.out⟩
set_option maxRecDepth 100000 in
set_option maxHeartbeats 8000000 in
theorem taken_b (A1 A2 : Option Addr) (a F : List Pl.En) (n1 c1 n2 c2 : Nat) (hn1 : a.length = n1) (hn2 : F.length = n2) (hl : n2 ≤ 1000) (hm1 : n1 ≤ maxLen) (hok : ∀ k (hk : k < F.length), Pl.adE (Pl.tov a (F.take k)) F[k] = 0) (hv : Pl.Vb (Pl.tov a F)) (w : World) (hI1 : Rows enL 4 w A1 a) (hI2 : Rows enL 4 w A2 F) :
    Calls Try.prog 45 #[.slice A1 n1 c1, .slice A2 n2 c2] w fun e w' => ∃ v, e = .returned (.tuple #[v, .bool true]) ∧ w'.ownsRow w.heap.size 24 4 v (Pl.srt (Pl.tov a F)).length (flt enL (Pl.srt (Pl.tov a F))) ∧ Below w.heap.size w w' := by
  have HTL : Hid (∀ k, k ≤ n2 → (Pl.tov a (F.take k)).length ≤ maxLen) := Lib.hid (fun k hk => by
    rcases Nat.eq_zero_or_pos k with rfl | h0
    · rw [List.take_zero]; show a.length ≤ maxLen; omega
    · obtain ⟨j, rfl⟩ : ∃ j, k = j + 1 := ⟨k - 1, by omega⟩
      have hj : j < F.length := by omega
      rw [Pl.tov_take hj, Pl.srt_len]
      have := (Pl.ad_vb (hok j hj)).len
      unfold maxLen; omega)
  have HOK := Lib.hid hok
  have HN2 := Lib.hid hn2
  have HI2 := Lib.hid hI2
  have HI1 : Hid (Rows enL 4 w A1 (Pl.tov a (F.take 0))) := Lib.hid hI1
  have HN1 : Hid ((Pl.tov a (F.take 0)).length = n1) := Lib.hid hn1
  have hse : Pl.soE (Pl.tov a F) = 0 := by unfold Pl.soE; rw [Pl.vb_iff.2 hv]; rfl
  have hsv : Pl.soV (Pl.tov a F) = Pl.srt (Pl.tov a F) := by unfold Pl.soV; rw [Pl.vb_iff.2 hv]; rfl
  have HS := Lib.hid (fun A c n (hn : (Pl.tov a F).length = n) hm W h => sorted2_any A (Pl.tov a F) c n hn hm W h)
  rw [hse, hsv] at HS
  clear hn1 hn2 hm1 hI1 hI2 hok hv hse hsv
  go_enter Try.func45, Try.ntmps45
  go_wp2
  go_loopw [0, 8, 9, 14] (fun b _ _ i wr => ∃ (k m c : Nat) (A : Option Addr), k ≤ n2 ∧ i = .int .i64 k ∧ b = .slice A m c ∧ Hid ((Pl.tov a (F.take k)).length = m) ∧ Hid (Rows enL 4 wr A (Pl.tov a (F.take k))) ∧ Hid (Below w.heap.size w wr)) (fun _ _ _ i _ => n2 - (intOf i).toNat)
  case atStart => exact ⟨0, n1, c1, A1, Nat.zero_le _, rfl, rfl, HN1, HI1, Lib.hid (Below.refl _ _)⟩
  case round =>
    clear HI1 HN1
    obtain ⟨k, m, c, A, hk, rfl, rfl, HM, HR, HW⟩ := hrel
    obtain ⟨wo, rfl⟩ : ∃ wo, wo = wr := ⟨_, rfl⟩
    by_cases hlt : k < n2
    · have hltI : (k : Int) < (n2 : Int) := by omega
      have hkx : k < F.length := by rw [HN2.out]; exact hlt
      obtain ⟨bx, ox, rfl, hbx, hcx⟩ := HI2.out.open (by omega)
      have hr := row_at hbx hcx HW.out hkx
      have hok := HOK.out k hkx
      have hav : Pl.adV (Pl.tov a (F.take k)) F[k] = Pl.tov a (F.take (k + 1)) := by unfold Pl.adV; rw [if_pos hok, Pl.tov_take hkx]
      have HAD := Lib.hid (fun W h => add_any A (Pl.tov a (F.take k)) c m HM.out (by rw [← HM.out]; exact HTL.out k hk) F[k] W h)
      rw [hok, hav] at HAD
      clear hcx
      generalize F[k] = x at *
      generalize Pl.tov a (F.take k) = X at *
      obtain ⟨Y, hY⟩ : ∃ Y, Pl.tov a (F.take (k + 1)) = Y := ⟨_, rfl⟩
      rw [hY] at HAD
      have HY := Lib.hid hY
      have bz := Blk.new wo 24 zen
      have HBz := Lib.hid ((Below.refl wo.heap.size wo).alloc (Nat.le_refl _) (.cells zen 24))
      clear hkx hok hav hY
      go_wp2_with (first
        | (have h9 := bz
           refine st_en (k := x) bz rfl rfl _ _ rfl rfl rfl ?_
           clear h9
           intro w3 bX hO3
           have hb3 : Below wo.heap.size wo w3 := HBz.out.trans (hO3.below (Nat.le_refl _))
           have HW3 := Lib.hid (HW.out.trans (hb3.mono HW.out.size))
           have HR3 := Lib.hid (HR.out.below hb3)
           have hr3 := bX.range
           clear bz hO3 hb3 hr bX)
        | (have h9 := hr
           refine ldm_en hr rfl _ rfl rfl ?_
           clear h9)
        | (have h9 := hr3
           refine ldm_en hr3 rfl _ rfl rfl ?_
           clear h9))
      refine (HAD.out w3 HR3.out).mono ?_
      rintro e w5 ⟨v5, rfl, hO5, hb5⟩
      obtain ⟨A5, c5, rfl, hR5, _, _, _⟩ := rows_own2 rfl hO5
      have HW5 := Lib.hid (HW3.out.trans (hb5.mono HW3.out.size))
      have HR5 := Lib.hid hR5
      clear hO5 hR5 hb5 hr3
      go_wp2
      go_roundw
      case rel => exact ⟨k + 1, _, c5, A5, by omega, by go_num, rfl, by rw [HY.out]; exact Lib.hid rfl, by rw [HY.out]; exact HR5, HW5⟩
      case measure => simp [intOf]; omega
    · obtain rfl : k = n2 := by omega
      have h1 := HM.out
      have h2 := HR.out
      have h3 := HTL.out k (Nat.le_refl _)
      rw [List.take_of_length_le (by rw [HN2.out]; exact Nat.le_refl _)] at h1 h2 h3
      rw [h1] at h3
      have HS2 := Lib.hid (HS.out A c m h1 h3 wo h2)
      clear h1 h2 h3 HM HR HS HTL
      go_wp2_with fail
      refine HS2.out.mono ?_
      rintro e w5 ⟨v5, rfl, hO5, hb5⟩
      have HO5 := Lib.hid (hO5.mono HW.out.size)
      have HW5 := Lib.hid (HW.out.trans (hb5.mono HW.out.size))
      clear hO5 hb5
      go_wp2
      go_ret2
      exact ⟨_, rfl, HO5.out, HW5.out⟩
end Go.Proofs.Ytalfffkcmddakaa
