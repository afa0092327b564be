/- End, of the program; Cleanings, both. -/
import Derived.Test.YtlfbfdhdkccaeaaGreatJ4
namespace Go.Proofs.YtlfbfdhdkccaeaaGreat
open Go.RowKit Go.Shelf Go.Sort

set_option maxRecDepth 100000 in
set_option maxHeartbeats 4000000 in
theorem End_any (A : Option Addr) (runs : List (List Pl.Rn)) (c m : Nat) (hm : runs.length = m) (w : World) (hR : RR rnL 4 w A runs) (hNz : Nz w A m) :
    Calls Tryz.prog 13 #[.slice A m c] w fun e w' => ∃ v r : Int, e = .returned (.tuple #[.int .i64 v, .int .i64 r]) ∧ Pl.EndR runs v r ∧ Below w.heap.size w w' := by
  obtain ⟨x, hx⟩ : ∃ x, Pl.cwd runs = x := ⟨_, rfl⟩
  have HC := Lib.hid (vruns_b A runs c m hm x hx w hR)
  cases x
  rotate_left
  · have HF : Hid (Pl.EndR runs 0 2) := Lib.hid (by unfold Pl.EndR; rw [if_pos hx]; exact ⟨rfl, rfl⟩)
    clear hm hx hR hNz
    go_enter Tryz.func13, Tryz.ntmps13
    go_wp2_with fail
    refine HC.out.mono ?_
    rintro e w1 ⟨rfl, hw1⟩
    obtain rfl : w = w1 := hw1.symm
    go_wp2
    go_ret2
    exact ⟨_, _, rfl, HF.out, Below.refl _ _⟩
  have HF : Hid (∀ v, Pl.Mx runs.flatten v → Pl.EndR runs v 0) := Lib.hid (fun v h => by unfold Pl.EndR; rw [if_neg (by rw [hx]; simp)]; exact ⟨rfl, h⟩)
  obtain ⟨hm8, hlen⟩ := Pl.cwd_no hx
  have htl := Pl.tl_bd (runs := runs) (B := 100) hlen runs.length (Nat.le_refl _)
  rw [Pl.tl_all] at htl
  rw [hm] at hm8 hlen htl
  have HCO := Lib.hid (concat_any A runs c m hm hm8 hlen w hR hNz)
  obtain ⟨L, hL⟩ : ∃ L, runs.flatten.length = L := ⟨_, rfl⟩
  rw [hL] at htl HCO
  have HLL := Lib.hid hL
  generalize runs.flatten = F at *
  clear hm hx hR hlen hNz hL
  go_enter Tryz.func13, Tryz.ntmps13
  go_wp2_with fail
  refine HC.out.mono ?_
  rintro e w1 ⟨rfl, hw1⟩
  obtain rfl : w = w1 := hw1.symm
  go_wp2_with fail
  refine HCO.out.mono ?_
  rintro e w1 ⟨v, rfl, hown, hb1⟩
  have hown' : w1.ownsRow w.heap.size 60 4 v F.length (flt rnL F) := by rw [HLL.out]; exact hown
  obtain ⟨A1, c1, rfl, hr1, _⟩ := rows_of_owns encRn hown'
  rw [HLL.out]
  clear hown hown'
  rcases Nat.eq_zero_or_pos L with h0 | h0
  · subst h0
    have HE : Hid (Pl.EndR runs 0 0) := Lib.hid (HF.out 0 (.inl ⟨List.length_eq_zero_iff.1 HLL.out, rfl⟩))
    clear hr1
    go_wp2
    go_ret2
    exact ⟨_, _, rfl, HE.out, hb1⟩
  · obtain ⟨b, off, rfl, _, _⟩ := hr1.open (by rw [HLL.out]; exact h0)
    have HMX := Lib.hid (maxf_b b off F c1 L HLL.out h0 (by omega) w1 hr1)
    have hz : ((L : Int) == 0) = false := by simp; omega
    clear hr1
    go_wp2_with fail
    refine HMX.out.mono ?_
    rintro e w2 ⟨r, rfl, hmx, hb2⟩
    have HE := Lib.hid (HF.out _ hmx)
    have hB2 := hb1.trans (hb2.mono hb1.size)
    have hB3 := hB2.alloc hB2.size (.cells (rnA r) 60)
    clear hmx hb2 hb1 hB2
    go_wp2
    go_ret2
    exact ⟨_, _, rfl, HE.out, hB3⟩

/-- what Cleanings answers -/
def Pl.cngV (runs : List (List Pl.Rn)) : Int := if Pl.cwd runs = true then 0 else Pl.nc runs
def Pl.cngE (runs : List (List Pl.Rn)) : Int := if Pl.cwd runs = true then 2 else 0
/-- how many of some runs are with cleaning -/
def Pl.ncl (D : List Pl.Rn) : Nat := (D.filter (·.c)).length
theorem Pl.ncl_snoc (D : List Pl.Rn) (r : Pl.Rn) : Pl.ncl (D ++ [r]) = Pl.ncl D + if r.c = true then 1 else 0 := by
  unfold Pl.ncl
  rw [List.filter_append, List.length_append]
  cases h : r.c <;> simp [h]
theorem Pl.ncl_le (D : List Pl.Rn) : Pl.ncl D ≤ D.length := List.length_filter_le _ _

set_option maxRecDepth 100000 in
set_option maxHeartbeats 4000000 in
theorem Cleanings_any (A : Option Addr) (runs : List (List Pl.Rn)) (c m : Nat) (hm : runs.length = m) (w : World) (hR : RR rnL 4 w A runs) (hNz : Nz w A m) :
    Calls Tryz.prog 35 #[.slice A m c] w fun e w' => e = .returned (.tuple #[.int .i64 (Pl.cngV runs), .int .i64 (Pl.cngE runs)]) ∧ Below w.heap.size w w' := by
  obtain ⟨x, hx⟩ : ∃ x, Pl.cwd runs = x := ⟨_, rfl⟩
  have HC := Lib.hid (vruns_b A runs c m hm x hx w hR)
  cases x
  rotate_left
  · have HF : Hid (Pl.cngV runs = 0 ∧ Pl.cngE runs = 2) := Lib.hid (by unfold Pl.cngV Pl.cngE; rw [if_pos hx, if_pos hx]; exact ⟨rfl, rfl⟩)
    generalize Pl.cngV runs = V at *
    generalize Pl.cngE runs = E at *
    clear hm hx hR hNz
    go_enter Tryz.func35, Tryz.ntmps35
    go_wp2_with fail
    refine HC.out.mono ?_
    rintro e w1 ⟨rfl, hw1⟩
    obtain rfl : w = w1 := hw1.symm
    go_wp2
    go_ret2
    exact ⟨by rw [HF.out.1, HF.out.2]; rfl, Below.refl _ _⟩
  have HF : Hid (Pl.cngV runs = (Pl.ncl runs.flatten : Nat) ∧ Pl.cngE runs = 0) := Lib.hid (by unfold Pl.cngV Pl.cngE; rw [if_neg (by rw [hx]; simp), if_neg (by rw [hx]; simp)]; exact ⟨rfl, rfl⟩)
  obtain ⟨hm8, hlen⟩ := Pl.cwd_no hx
  have htl := Pl.tl_bd (runs := runs) (B := 100) hlen runs.length (Nat.le_refl _)
  rw [Pl.tl_all] at htl
  rw [hm] at hm8 hlen htl
  have HCO := Lib.hid (concat_any A runs c m hm hm8 hlen w hR hNz)
  obtain ⟨L, hL⟩ : ∃ L, runs.flatten.length = L := ⟨_, rfl⟩
  rw [hL] at htl HCO
  have HLL := Lib.hid hL
  generalize Pl.cngV runs = V at *
  generalize Pl.cngE runs = E at *
  generalize runs.flatten = F at *
  have HTK : Hid (∀ k (hk : k < F.length), Pl.ncl (F.take (k + 1)) = Pl.ncl (F.take k) + if (F[k]).c = true then 1 else 0) := Lib.hid (fun k hk => by rw [List.take_succ_eq_append_getElem hk, Pl.ncl_snoc])
  have HTA : Hid (Pl.ncl (F.take L) = Pl.ncl F) := Lib.hid (by rw [← hL, List.take_length])
  have HTB : Hid (∀ k, Pl.ncl (F.take k) ≤ k) := Lib.hid (fun k => Nat.le_trans (Pl.ncl_le _) (List.length_take_le _ _))
  clear hm hx hR hlen hNz hL
  go_enter Tryz.func35, Tryz.ntmps35
  go_wp2_with fail
  refine HC.out.mono ?_
  rintro e w1 ⟨rfl, hw1⟩
  obtain rfl : w = w1 := hw1.symm
  go_wp2_with fail
  refine HCO.out.mono ?_
  rintro e w1 ⟨v, rfl, hown, hb1⟩
  have hown' : w1.ownsRow w.heap.size 60 4 v F.length (flt rnL F) := by rw [HLL.out]; exact hown
  obtain ⟨A1, c1, rfl, hr1, _⟩ := rows_of_owns encRn hown'
  rw [HLL.out]
  have HX := Lib.hid hr1
  clear hown hown' hr1
  go_wp2
  go_loopw [4, 13] (fun n i wr => ∃ k : Nat, k ≤ L ∧ i = .int .i64 k ∧ n = .int .i64 (Pl.ncl (F.take k) : Nat) ∧ Below w1.heap.size w1 wr) (fun _ i _ => L - (intOf i).toNat)
  case atStart => exact ⟨0, Nat.zero_le _, rfl, by simp [Pl.ncl], Below.refl _ _⟩
  case round =>
    obtain ⟨k, hk, rfl, rfl, hW⟩ := hrel
    obtain ⟨wo, rfl⟩ : ∃ wo, wo = wr := ⟨_, rfl⟩
    by_cases hlt : k < L
    · have hltI : (k : Int) < (L : Int) := by omega
      have hkx : k < F.length := by rw [HLL.out]; exact hlt
      obtain ⟨b, off, rfl, hb, hc⟩ := HX.out.open (by omega)
      have rk := rangeAt_below (hc k hkx) hb hW
      have HK := Lib.hid (HTK.out k hkx)
      have hbk := HTB.out k
      generalize F[k] = y at *
      generalize Pl.ncl (F.take k) = N at *
      have hW2 := hW.alloc hW.size (.cells (rnA y) 60)
      clear hc
      obtain ⟨yb, yf, yt, yc⟩ := y
      cases yc
      · have HN : Hid (Pl.ncl (F.take (k + 1)) = N) := Lib.hid (by rw [HK.out]; rfl)
        go_wp2_with (refine ldm_rn rk rfl _ rfl rfl ?_)
        go_roundw
        case rel => exact ⟨k + 1, by omega, by go_num, by rw [HN.out], hW2⟩
        case measure => simp [intOf]; omega
      · have HN : Hid (Pl.ncl (F.take (k + 1)) = N + 1) := Lib.hid (by rw [HK.out]; rfl)
        go_wp2_with (refine ldm_rn rk rfl _ rfl rfl ?_)
        go_roundw
        case rel => exact ⟨k + 1, by omega, by go_num, by rw [HN.out]; go_num, hW2⟩
        case measure => simp [intOf]; omega
    · obtain rfl : L = k := by omega
      have HE : Hid (V = (Pl.ncl (F.take L) : Nat)) := Lib.hid (by rw [HF.out.1, HTA.out])
      generalize Pl.ncl (F.take L) = N at *
      have hB := hb1.trans (hW.mono hb1.size)
      go_wp2
      go_ret2
      exact ⟨by rw [HE.out, HF.out.2]; rfl, hB⟩

end Go.Proofs.YtlfbfdhdkccaeaaGreat

