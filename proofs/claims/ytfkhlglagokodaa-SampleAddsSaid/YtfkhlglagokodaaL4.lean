/- SampleAdds. -/
import Derived.Test.YtfkhlglagokodaaA6
import Derived.Test.YtfkhlglagokodaaC1
namespace Go.Proofs.Ytfkhlglagokodaa
open Go.RowKit Go.Shelf

set_option maxRecDepth 100000 in
set_option maxHeartbeats 16000000 in
theorem law_adds (n k b : Nat) (hn : n ≤ 255) (hk : k ≤ 255) (hb : b ≤ 255) (w : World) :
    Calls Try.prog 11 #[.int .u8 n, .int .u8 k, .int .u8 b] w fun e w' => e = .returned (.bool true) ∧ Below w.heap.size w w' := by
  obtain ⟨l, hl⟩ : ∃ l, n % 61 = l := ⟨_, rfl⟩
  obtain ⟨s, hs⟩ : ∃ s, k % (l + 1) = s := ⟨_, rfl⟩
  obtain ⟨c, hc⟩ : ∃ c, b % (l + 1) = c := ⟨_, rfl⟩
  have hl60 : l ≤ 60 := by omega
  have hsl : s ≤ l := by have := Nat.mod_lt k (show 0 < l + 1 by omega); omega
  have hcl : c ≤ l := by have := Nat.mod_lt b (show 0 < l + 1 by omega); omega
  have a1 : (n : Int).tmod 61 = (l : Int) := by rw [← hl]; rfl
  have a2 : IntKind.u8.wrap (l : Int) = (l : Int) := by rw [IntWalk.u8_in _ (by omega)]
  have a3 : IntKind.i64.wrap (l : Int) = (l : Int) := IntWalk.i64_in _ (by omega)
  have a4 : IntKind.i64.wrap (k : Int) = (k : Int) := IntWalk.i64_in _ (by omega)
  have a5 : IntKind.i64.wrap (b : Int) = (b : Int) := IntWalk.i64_in _ (by omega)
  have a6 : (k : Int).tmod ((l : Int) + 1) = (s : Int) := by rw [← hs]; rfl
  have a7 : (b : Int).tmod ((l : Int) + 1) = (c : Int) := by rw [← hc]; rfl
  have a8 : ¬ (l : Int) + 1 = 0 := by omega
  have a9 : IntKind.i64.wrap ((l : Int) + 1) = (l : Int) + 1 := IntWalk.i64_in _ (by omega)
  have b1 : (n : Int) % 61 = (l : Int) := by omega
  have b6 : (k : Int) % ((l : Int) + 1) = (s : Int) := by rw [← hs]; rfl
  have b7 : (b : Int) % ((l : Int) + 1) = (c : Int) := by rw [← hc]; rfl
  have hnI : (n : Int) ≤ 255 := by omega
  have hkI : (k : Int) ≤ 255 := by omega
  have hbI : (b : Int) ≤ 255 := by omega
  have H1 := Lib.hid (fun (w' : World) => Ways_b l c s w')
  have H2 := Lib.hid (fun (w' : World) => Choose_b l s w')
  have H3 := Lib.hid (fun (w' : World) => Choose_b l ((l - s : Nat) : Int) w')
  have H7 := Lib.hid awake_any
  obtain ⟨_, _, _, q1, q2, q3, _, _, _, e1, e2⟩ := Pl.wok_ok (Pl.wok_nat hl60 hcl hsl)
  cases Int.ofNat.inj q1
  cases Int.ofNat.inj q2
  cases Int.ofNat.inj q3
  rw [e1, e2, Pl.wl_len] at H1
  rw [Pl.Hv_ok hl60, Pl.He_ok hl60] at H2 H3
  rw [Pl.ch_sym hsl] at H3
  have H4 := Lib.hid (fun (w' : World) => Choose_b ((l - 1 : Nat) : Int) ((s - 1 : Nat) : Int) w')
  have H5 := Lib.hid (fun (w' : World) => Choose_b ((l - 1 : Nat) : Int) s w')
  rw [Pl.Hv_ok (by omega), Pl.He_ok (by omega)] at H4 H5
  have HP : Hid (0 < l → 0 < s → Pl.ch (l - 1) (s - 1) + Pl.ch (l - 1) s = Pl.ch l s) := Lib.hid (fun h1 h2 => by
    obtain ⟨l', rfl⟩ : ∃ l', l = l' + 1 := ⟨l - 1, by omega⟩
    obtain ⟨s', rfl⟩ : ∃ s', s = s' + 1 := ⟨s - 1, by omega⟩
    rw [Pl.ch_ss]; rfl)
  have HO : Hid (l = 0 ∨ s = 0 → Pl.ch l s = 1) := Lib.hid (fun h => by
    have : s = 0 := by omega
    rw [this, Pl.ch_0])
  have HA := Lib.hid (Pl.ch_le hl60 s)
  have HB1 := Lib.hid (Pl.ch_le (n := l - 1) (by omega) (s - 1))
  have HB2 := Lib.hid (Pl.ch_le (n := l - 1) (by omega) s)
  obtain ⟨f, hf⟩ : ∃ f, Pl.wy c (l - c) s = f := ⟨_, rfl⟩
  have HG : Hid (∀ i (hi : i < (Pl.wl l c s).length), (Pl.wl l c s)[i] = f i) := Lib.hid (fun i hi => by rw [← hf]; simp [Pl.wl])
  have HT : Hid (Pl.sm f (s + 1) = Pl.ch l s) := Lib.hid (by rw [← hf, Pl.wy_all, show c + (l - c) = l from by omega])
  have HS : Hid (∀ i, i ≤ s + 1 → Pl.sm f i ≤ 118264581564861424) := Lib.hid (fun i hi => Nat.le_trans (Pl.sm_le f hi) (by rw [HT.out]; exact HA.out))
  have HLen := Lib.hid (Pl.wl_len l c s)
  generalize Pl.wl l c s = M at *
  generalize Pl.ch l s = A at *
  generalize Pl.ch (l - 1) (s - 1) = A1 at *
  generalize Pl.ch (l - 1) s = A2 at *
  have d1 : IntKind.i64.wrap ((l : Int) - (s : Int)) = ((l - s : Nat) : Int) := by rw [IntWalk.i64_in _ (by omega)]; omega
  have d2 : (l : Int) - (s : Int) = ((l - s : Nat) : Int) := by omega
  clear hl hs hc hf e1 e2 hn hk hb
  go_enter Try.func11, Try.ntmps11
  go_wp2
  refine wp_region_ext (by kernel_rfl) (by kernel_rfl) ?_
  repeat (go_big_quiet_step (fail))
  refine wpQuiet_nil ?_
  rintro _ ⟨x, rfl⟩
  have hB1 := x.h
  generalize x.w = w1 at *
  clear x
  go_wp2_with fail
  refine (H1.out _).mono ?_
  rintro e w2 ⟨A0, c0, rfl, hr, hb2⟩
  have hB2 := hB1.trans (hb2.mono hB1.size)
  go_wp2_with fail
  refine (H2.out _).mono ?_
  rintro e w3 ⟨rfl, hb3⟩
  have hB3 := hB2.trans (hb3.mono hB2.size)
  have hr3 := hr.below hb3
  clear hr hb2 hb3 hB1 hB2
  go_wp2_with fail
  refine (H3.out _).mono ?_
  rintro e w4 ⟨rfl, hb4⟩
  have hB4 := hB3.trans (hb4.mono hB3.size)
  have hr4 := hr3.below hb4
  obtain ⟨bb, off, rfl, hbb, hcc⟩ := hr4.open (by rw [HLen.out]; omega)
  have HCC : Hid (∀ i, i < s + 1 → w4.cell? ⟨bb, off + i, none⟩ = some (.int .i64 (f i))) := Lib.hid (fun i hi => by
    have hi' : i < M.length := by rw [HLen.out]; exact hi
    have := hcc i hi' 0 _ rfl
    rw [Nat.mul_one, HG.out i hi'] at this
    exact this)
  clear hr3 hr4 hcc hb4 hB3 HG
  obtain ⟨s1, hs1⟩ : ∃ s1, s + 1 = s1 := ⟨_, rfl⟩
  have HS1 := Lib.hid hs1
  rw [hs1] at HCC HS HT ⊢
  have k1 : (s : Int) + 1 = (s1 : Int) := by omega
  have k2 : IntKind.i64.wrap ((s : Int) + 1) = (s1 : Int) := by rw [IntWalk.i64_in _ (by omega)]; exact k1
  clear hs1
  go_wp2
  go_loopw [16, 18, 79] (fun x _ j wr => ∃ i : Nat, i ≤ s1 ∧ x = .int .i64 (Pl.sm f i) ∧ j = .int .i64 i ∧ wr = w4) (fun _ _ j _ => s1 - (intOf j).toNat)
  case atStart => exact ⟨0, Nat.zero_le _, rfl, rfl, rfl⟩
  case round =>
    obtain ⟨i, hi, rfl, rfl, hwr⟩ := hrel
    rw [hwr]
    clear hwr
    by_cases hlt : i < s1
    · have hltI : (i : Int) < (s1 : Int) := by omega
      have q0 := HCC.out i hlt
      have b1 := HS.out (i + 1) (by omega)
      have e1 : Pl.sm f (i + 1) = Pl.sm f i + f i := rfl
      rw [e1] at b1
      have E1 := Lib.hid e1
      generalize Pl.sm f i = X at *
      generalize f i = Y at *
      obtain ⟨Z, hZ⟩ : ∃ Z, X + Y = Z := ⟨_, rfl⟩
      rw [hZ] at E1 b1
      have k3 : IntKind.i64.wrap ((X : Int) + (Y : Int)) = (Z : Int) := by rw [IntWalk.i64_in _ (by omega)]; omega
      clear b1 e1 hZ
      go_wp2
      go_roundw
      case rel => exact ⟨i + 1, by omega, by rw [E1.out], by go_num, trivial⟩
      case measure => simp [intOf]; omega
    · obtain rfl : i = s1 := by omega
      rw [HT.out]
      clear HT HS HCC
      by_cases h0 : l = 0 ∨ s = 0
      · have hA1 := HO.out h0
        subst hA1
        have HB4 := Lib.hid hB4
        rcases h0 with rfl | h0
        · go_wp2_with fail
          refine (H7.out _).mono ?_
          rintro e w6 ⟨rfl, hb6⟩
          go_wp2
          go_ret
          exact ⟨rfl, hB4.trans (hb6.mono hB4.size)⟩
        · have hl0 : l = 0 ∨ ¬ l = 0 := by omega
          subst h0
          rcases hl0 with rfl | hl0 <;>
          (go_wp2_with fail
           refine (H7.out _).mono ?_
           rintro e w6 ⟨rfl, hb6⟩
           go_wp2
           go_ret
           exact ⟨rfl, hB4.trans (hb6.mono hB4.size)⟩)
      · have hP := HP.out (by omega) (by omega)
        have g1 : ¬ (l : Int) = 0 := by omega
        have g2 : ¬ (s : Int) = 0 := by omega
        have g3 : ((l : Int) == 0) = false := by simpa using g1
        have g4 : ((s : Int) == 0) = false := by simpa using g2
        have g5 : IntKind.i64.wrap ((l : Int) - 1) = ((l - 1 : Nat) : Int) := by rw [IntWalk.i64_in _ (by omega)]; omega
        have g6 : IntKind.i64.wrap ((s : Int) - 1) = ((s - 1 : Nat) : Int) := by rw [IntWalk.i64_in _ (by omega)]; omega
        have g7 : (l : Int) - 1 = ((l - 1 : Nat) : Int) := by omega
        have g8 : (s : Int) - 1 = ((s - 1 : Nat) : Int) := by omega
        have h1 := HA.out
        have g9 : IntKind.i64.wrap ((A1 : Int) + (A2 : Int)) = (A : Int) := by rw [IntWalk.i64_in _ (by omega)]; omega
        have hAI : (A : Int) ≤ 118264581564861424 := by omega
        have g10 : (A1 : Int) + (A2 : Int) = (A : Int) := by omega
        rw [← g7, ← g8] at H4
        rw [← g7] at H5
        have g11 : IntKind.i64.wrap ((l : Int) - 1) = (l : Int) - 1 := by rw [g5, g7]
        have g12 : IntKind.i64.wrap ((s : Int) - 1) = (s : Int) - 1 := by rw [g6, g8]
        clear hP h0 h1 HO HP g1 g2 g5 g6 g7 g8
        go_wp2_with fail
        refine (H4.out _).mono ?_
        rintro e w6 ⟨rfl, hb6⟩
        have hB6 := hB4.trans (hb6.mono hB4.size)
        go_wp2_with fail
        refine (H5.out _).mono ?_
        rintro e w7 ⟨rfl, hb7⟩
        have hB7 := hB6.trans (hb7.mono hB6.size)
        go_wp2_with fail
        refine (H7.out _).mono ?_
        rintro e w8 ⟨rfl, hb8⟩
        go_wp2
        go_ret
        exact ⟨rfl, hB7.trans (hb8.mono hB7.size)⟩
end Go.Proofs.Ytfkhlglagokodaa
