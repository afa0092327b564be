/- LedgerPlays. -/
import Derived.Test.YtalfffkcmddakabR11
import Derived.Test.YtalfffkcmddakabV2
namespace Go.Proofs.Ytalfffkcmddakab
open Go.RowKit Go.Shelf

theorem LsIn.belowG {W W' : World} {A : Option Addr} {l : List Pl.Gs} {c : Nat} (h : LsIn gsL 6 GsIn W A l c) (hb : Below W.heap.size W W') : LsIn gsL 6 GsIn W' A l c := ⟨h.rows.below hb, h.cap, h.top, fun y hy => (h.each y hy).below hb⟩
/-- what holds of the pair between the steps -/
structure PrS (B : Nat) (w : World) (p b r : Nat) (k : Nat) (j q : Nat) (D : Pl.Dk) (J : Pl.Jn) : Prop where
  pr : Pr2 w p b r j q D J
  sz : Sz D
  im : J.im.length ≤ 100000
  st : D.st ≤ k + 1
  lj : B ≤ j
  lq : B ≤ q
set_option maxRecDepth 100000 in
set_option maxHeartbeats 16000000 in
theorem law_plays (A : Option Addr) (l : List Pl.Gs) (c n : Nat) (hn : l.length = n) (w : World) (hL : LsIn gsL 6 GsIn w A l c) :
    Calls Try.prog 5 #[.slice A n c] w fun e w' => e = .returned (.bool true) ∧ Below w.heap.size w w' := by
  have hn63 : (n : Int) ≤ 9223372036854775807 := by have h1 := hL.cap; have h2 := hL.top; unfold maxLen at h2; omega
  have HL := Lib.hid hL
  have HN := Lib.hid hn
  clear hL hn
  by_cases h30 : 30 < n
  · have h30I : (30 : Int) < (n : Nat) := by omega
    go_enter Try.func5, Try.ntmps5
    go_wp2_with fail
    refine (awake_any w).mono ?_
    rintro e w1 ⟨rfl, hb⟩
    go_wp2
    go_ret
    exact ⟨rfl, hb⟩
  have h30I : ¬ (30 : Int) < (n : Nat) := by omega
  go_enter Try.func5, Try.ntmps5
  go_wp2_with fail
  refine (newdisk_any w).mono ?_
  rintro e w1 ⟨rfl, hD1, hB1⟩
  have HD1 : Hid (Dsk w1 w.heap.size Pl.dk0) := Lib.hid ⟨_, _, _, hD1⟩
  have hs1 := hB1.size
  have HB1 := Lib.hid hB1
  clear hD1 hB1
  go_wp2_with fail
  refine (rnew_any w1).mono ?_
  rintro e w2 ⟨rfl, hK2, hb2⟩
  have HD2 := Lib.hid (HD1.out.below hb2)
  have HK2 := Lib.hid hK2
  have HB2 := Lib.hid (HB1.out.trans (hb2.mono hs1))
  have hs2 := hb2.size
  have hba := (Below.refl w2.heap.size w2).alloc (Nat.le_refl _) (.cells (pairA w.heap.size w1.heap.size (.pointer none) (.pointer none)) 48)
  have HO := Lib.hid (popen_any (Blk.new w2 48 (pairA w.heap.size w1.heap.size (.pointer none) (.pointer none))) (HD2.out.below hba) (hK2.below hba))
  have HB3 := Lib.hid (HB2.out.trans (hba.mono (Nat.le_trans hs1 hs2)))
  have hs3 := hba.size
  obtain ⟨B, hB⟩ : ∃ B, w.heap.size = B := ⟨_, rfl⟩
  have HBw := Lib.hid hB
  rw [hB] at HD1 HD2 HB1 HB2 HB3 HO hs1 hs3 hba ⊢
  clear hK2 hb2 HD1 HB1 hB
  go_wp2_with fail
  generalize w2.alloc (.cells (pairA B w1.heap.size (.pointer none) (.pointer none)) 48) = W0 at *
  obtain ⟨p, hp⟩ : ∃ p, w2.heap.size = p := ⟨_, rfl⟩
  obtain ⟨r, hr⟩ : ∃ r, w1.heap.size = r := ⟨_, rfl⟩
  rw [hp] at HO hs2 hs3 ⊢
  rw [hr] at HO hs1 hs2 ⊢
  refine HO.out.mono ?_
  rintro e w3 ⟨rfl, hF3, hy, _⟩
  obtain ⟨j, q, hj, hq, hP3⟩ := hy rfl
  have HB4 := Lib.hid (HB3.out.trans (hF3.below (B := B) (by intro k hk; simp at hk; omega) (by omega)))
  have HS3 : Hid (PrS B w3 p B r 0 j q Pl.dk0 (Pl.opn Pl.dk0)) := Lib.hid ⟨hP3, ⟨Nat.zero_le _, Nat.zero_le _⟩, opn_sz _, Nat.le_refl _, by omega, by omega⟩
  have hlo : B ≤ p ∧ B ≤ r := by omega
  clear hF3 hy hP3 HO HD2 HK2 HB2 HB3 hba hj hq hs3 hp hr
  go_wp2
  go_loopw [19] (fun i wr => ∃ k : Nat, ∃ j q D J, k ≤ n ∧ i = .int .i64 k ∧ Hid (PrS B wr p B r k j q D J) ∧ Hid (Below B w wr)) (fun i _ => n - (intOf i).toNat)
  case atStart => exact ⟨0, j, q, _, _, Nat.zero_le _, rfl, HS3, HB4⟩
  case round =>
    clear HS3 HB4
    obtain ⟨k, j, q, D, J, hk, rfl, HS, HB⟩ := hrel
    obtain ⟨wo, rfl⟩ : ∃ wo, wo = wr := ⟨_, rfl⟩
    by_cases hlt : k < n
    · have hltI : (k : Int) < (n : Int) := by omega
      have hkx : k < l.length := by rw [HN.out]; exact hlt
      have hLo := HL.out.belowG (W' := wo) (by rw [HBw.out]; exact HB.out)
      obtain ⟨bx, ox, rfl, hbx, hcx⟩ := hLo.rows.open (by omega)
      have hrx := hcx k hkx
      have hgi := hLo.each _ (List.getElem_mem hkx)
      clear hcx hLo
      generalize l[k] = g at *
      have hbe := (Below.refl wo.heap.size wo).alloc (Nat.le_refl _) (.cells (gsA g) 50)
      have bG := Blk.new wo 50 (gsA g)
      have HGI := Lib.hid (hgi.below hbe)
      obtain ⟨nb, hnb⟩ : ∃ nb, g.x.b.length = nb := ⟨_, rfl⟩
      obtain ⟨ni, hni⟩ : ∃ ni, g.im.length = ni := ⟨_, rfl⟩
      have hnb63 : (nb : Int) ≤ 9223372036854775807 := by have h1 := hgi.ac.b.cap; have h2 := hgi.ac.b.top; unfold maxLen at h2; omega
      have hni63 : (ni : Int) ≤ 9223372036854775807 := by have h1 := hgi.im.cap; have h2 := hgi.im.top; unfold maxLen at h2; omega
      have g4 : (wo.alloc (.cells (gsA g) 50)).cell? ⟨wo.heap.size, 4, none⟩ = some (.slice g.x.a nb g.x.c) := by rw [← hnb]; exact bG.cell 4
      have g5 : (wo.alloc (.cells (gsA g) 50)).cell? ⟨wo.heap.size, 5, none⟩ = some (.slice g.a ni g.c) := by rw [← hni]; exact bG.cell 5
      have rG := bG.range
      have hlo2 : B ≤ wo.heap.size := by have := HS.out.pr.blk.lt; omega
      have hS2 : PrS B (wo.alloc (.cells (gsA g) 50)) p B r k j q D J := ⟨HS.out.pr.below hbe, HS.out.sz, HS.out.im, HS.out.st, HS.out.lj, HS.out.lq⟩
      have HS2 := Lib.hid hS2
      have HB2 := Lib.hid (HB.out.trans (hbe.mono hlo2))
      have HNB := Lib.hid hnb
      clear bG hgi hbe hnb hni hS2
      by_cases h3 : 300 < nb
      · have h3I : (300 : Int) < (nb : Int) := by omega
        go_wp2_with (refine ldm_gs hrx rfl _ rfl rfl ?_)
        go_roundw
        case rel => exact ⟨k + 1, j, q, D, J, by omega, by go_num, Lib.hid ⟨HS2.out.pr, HS2.out.sz, HS2.out.im, by have := HS2.out.st; omega, HS2.out.lj, HS2.out.lq⟩, HB2⟩
        case measure => simp [intOf]; omega
      have h3I : ¬ (300 : Int) < (nb : Int) := by omega
      by_cases h4 : 400 < ni
      · have h4I : (400 : Int) < (ni : Int) := by omega
        go_wp2_with (refine ldm_gs hrx rfl _ rfl rfl ?_)
        go_roundw
        case rel => exact ⟨k + 1, j, q, D, J, by omega, by go_num, Lib.hid ⟨HS2.out.pr, HS2.out.sz, HS2.out.im, by have := HS2.out.st; omega, HS2.out.lj, HS2.out.lq⟩, HB2⟩
        case measure => simp [intOf]; omega
      have h4I : ¬ (400 : Int) < (ni : Int) := by omega
      have hDO := does_any HS2.out.pr HS2.out.sz HS2.out.im (by have := HS2.out.st; omega) g HGI.out (by rw [HNB.out]; omega) ⟨hlo.1, Nat.le_refl B, hlo.2, HS2.out.lj, HS2.out.lq⟩
      have HDO := Lib.hid hDO
      have hsz := pl_sz (J := J) HS2.out.sz HS2.out.im g (by rw [HNB.out]; omega)
      have HSZ := Lib.hid hsz
      clear hDO hsz
      go_wp2_with (first | refine ldm_gs hrx rfl _ rfl rfl ?_ | refine ldm_gs rG rfl _ rfl rfl ?_)
      refine HDO.out.mono ?_
      rintro e w4 ⟨rfl, ⟨j', q', hj', hq', hP4⟩, hb4⟩
      have HS4 : Hid (PrS B w4 p B r (k + 1) j' q' (plD D J g) (plJ D J g)) := Lib.hid ⟨hP4, HSZ.out.1, HSZ.out.2.2, by have := HSZ.out.2.1; have := HS2.out.st; omega, hj', hq'⟩
      have HB4 := Lib.hid (HB2.out.trans hb4)
      have HFT := Lib.hid (fits_any hP4 HSZ.out.2.2)
      clear hP4 hb4 hrx rG g4 g5 HDO
      go_wp2_with fail
      refine HFT.out.mono ?_
      rintro e w5 ⟨rfl, hb5⟩
      have HS5 : Hid (PrS B w5 p B r (k + 1) j' q' (plD D J g) (plJ D J g)) := Lib.hid ⟨HS4.out.pr.below hb5, HS4.out.sz, HS4.out.im, HS4.out.st, hj', hq'⟩
      have HB5 := Lib.hid (HB4.out.trans (hb5.mono (by have := HS4.out.pr.blk.lt; omega)))
      clear hb5 HFT
      go_wp2
      go_roundw
      case rel => exact ⟨k + 1, j', q', _, _, by omega, by go_num, HS5, HB5⟩
      case measure => simp [intOf]; omega
    · obtain rfl : k = n := by omega
      have hlo2 : B ≤ wo.heap.size := by have := HS.out.pr.blk.lt; omega
      go_wp2_with fail
      refine (awake_any wo).mono ?_
      rintro e w4 ⟨rfl, hb⟩
      have hB4 := HB.out.trans (hb.mono hlo2)
      go_wp2
      go_ret
      exact ⟨rfl, by rw [HBw.out]; exact hB4⟩
end Go.Proofs.Ytalfffkcmddakab
