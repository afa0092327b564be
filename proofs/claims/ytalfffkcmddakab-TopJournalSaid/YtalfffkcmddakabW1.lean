/- encoded, Encode of the program. -/
import Derived.Test.YtalfffkcmddakabJP
import Derived.Test.YtalfffkcmddakabZ2
import Derived.Test.YtalfffkcmddakabE7
import Derived.Test.YtalfffkcmddakabF5
import Derived.Test.YtalfffkcmddakabJQ
namespace Go.Proofs.Ytalfffkcmddakab
open Go.RowKit Go.Shelf

/-- an own row's block has one type -/
theorem own_ne_blk {W : World} {B g k n : Nat} {t t' : TypeId} {v : Value} {xs : List Value} {cs : Array Value} (h : W.ownsRow B t k v n xs) (hb : Blk W g t' cs) (ht : t ≠ t') : v.ownBlock ≠ some g := by
  intro e
  rcases h with ⟨_, ⟨rfl, _⟩ | ⟨g', cap, cur, rfl, _, hg, _⟩⟩
  · cases e
  · cases e
    unfold Blk at hb
    rw [hg] at hb
    injection hb with hb
    injection hb with _ h2 _
    exact ht h2
theorem Blk.grownBy {W W' : World} {g : Nat} {t : TypeId} {cs : Array Value} {v : Value} (h : Blk W g t cs) (hg : W.grownBy W' v.ownBlock) (hn : v.ownBlock ≠ some g) : Blk W' g t cs := (hg.block g h.lt (fun e => hn e.symm)).trans h
set_option maxRecDepth 100000 in
set_option maxHeartbeats 1000000 in
theorem withnum2_any (B : Nat) (v : Value) (k n : Nat) (xs : List Value) (hk : k ≤ 100000) (w : World) (hO : w.ownsRow B 5 1 v k xs) (hB : B ≤ w.heap.size) :
    Calls Try.prog 64 #[v, .int .i64 (n : Nat)] w fun e w' => ∃ u, e = .returned u ∧ w'.ownsRow B 5 1 u (k + 4) (xs ++ flt u8L (Pl.four n)) ∧ Below B w w' ∧ ∀ g cs, Blk w g 72 cs → Blk w' g 72 cs := by
  obtain ⟨i0, hi, hz0, hz1, hz2⟩ := info_parts infoU8
  have HO := Lib.hid hO
  clear hO
  go_enter Try.func64, Try.ntmps64
  go_wp2_with (at_builtin; refine wpList_append_own _ rfl _ _ 29 rfl B 5 i0 _ 1 1 Try.underlying29 hi hz0 hz1 hz2 rfl (by decide) _ _ _ rfl (HO.out.alloc _) ⟨w.heap.size, 0, none⟩ 4 4 (flt u8L (Pl.four n)) rfl rfl ?c2 (flt_one' encU8 _) (by unfold maxLen; omega) (by omega) (by simp; omega) ?_; (case c2 => rw [four_cells]; exact new_cells _ _ _); intro v' w9 hown' hgrow _)
  go_ret
  refine ⟨_, rfl, hown', ((Below.refl B w).alloc hB _).grown hgrow (by simp; omega) (fun s e => (HO.out.lt s e).1), fun g cs hb => ?_⟩
  exact (hb.alloc _).grownBy hgrow (own_ne_blk HO.out hb (by decide))
theorem one_cell (k : Nat) : flt u8L [UInt8.ofNat k] = [.int .u8 ((k : Int) % 256)] := by
  simp [flt, u8L, UInt8.toNat_ofNat']
theorem enc1_cells (k r d c : Nat) : flt u8L (Pl.enc1 ⟨k, r, d, c⟩) = ((flt u8L [UInt8.ofNat k] ++ flt u8L (Pl.four r)) ++ flt u8L (Pl.four d)) ++ flt u8L (Pl.four c) := by
  unfold Pl.enc1
  simp only [Int.toNat_natCast, flt_append]
set_option maxRecDepth 100000 in
set_option maxHeartbeats 8000000 in
theorem encoded_b (A : Option Addr) (l : List Pl.En) (c n : Nat) (hn : l.length = n) (hv : Pl.Vb l) (w : World) (hI : Rows enL 4 w A l) :
    Calls Try.prog 58 #[.slice A n c] w fun e w' => ∃ v, e = .returned v ∧ w'.ownsRow w.heap.size 5 1 v (13 * n) (flt u8L (Pl.encL (Pl.srt l))) ∧ Below w.heap.size w w' := by
  have hl : n ≤ 200 := by rw [← hn]; exact hv.len
  have H1 := Lib.hid (byname_any A l c n hn (by omega) (fun e he => okN_ve (hv.each e he)) w hI)
  rw [Pl.gm_id hv.dif] at H1
  have H2 := Lib.hid (fun b m W => sorted_any b m l hv.ok W)
  obtain ⟨S, hS⟩ : ∃ S, Pl.srt l = S := ⟨_, rfl⟩
  have HSL : Hid (S.length = n) := Lib.hid (by rw [← hS, Pl.srt_len, hn])
  have HEV : Hid (∀ e, e ∈ S → Pl.vE e = true) := Lib.hid (fun e he => hv.each e (Pl.srt_mem.1 (by rw [hS]; exact he)))
  have HL := Lib.hid hl
  have HN := Lib.hid hn
  rw [hS] at H2 ⊢
  obtain ⟨i0, hi, hz0, hz1, hz2⟩ := info_parts infoU8
  clear hS hl hI hv hn
  go_enter Try.func58, Try.ntmps58
  go_wp2_with fail
  refine H1.out.mono ?_
  rintro e w1 ⟨rfl, hM, hb1⟩
  have HM := Lib.hid hM
  clear hM H1
  go_wp2_with fail
  refine (H2.out w.heap.size n w1 HM.out).mono ?_
  rintro e w2 ⟨v2, rfl, hO2, hb2⟩
  rw [HN.out] at hO2
  obtain ⟨A2, c2, rfl, hR2, _, _, _⟩ := rows_own2 HSL.out hO2
  have HB2 := Lib.hid (hb1.trans (hb2.mono hb1.size))
  have HR2 := Lib.hid hR2
  clear hO2 hb1 hb2 hR2 HM H2
  go_wp2
  go_loopw [3, 10] (fun v i wr => ∃ (k : Nat) (lv : Value), k ≤ n ∧ lv = v ∧ i = .int .i64 k ∧ Hid (wr.ownsRow w2.heap.size 5 1 lv (13 * k) (flt u8L (Pl.encL (S.take k)))) ∧ Hid (Below w2.heap.size w2 wr)) (fun _ i _ => n - (intOf i).toNat)
  case atStart => exact ⟨0, _, Nat.zero_le _, rfl, rfl, Lib.hid (World.ownsRow_nil _ _ _ _), Lib.hid (Below.refl _ _)⟩
  case round =>
    obtain ⟨k, lv, hk, rfl, rfl, HO, HW⟩ := hrel
    obtain ⟨wo, rfl⟩ : ∃ wo, wo = wr := ⟨_, rfl⟩
    by_cases hlt : k < n
    · have hltI : (k : Int) < (n : Int) := by omega
      have hkx : k < S.length := by rw [HSL.out]; exact hlt
      obtain ⟨bx, ox, rfl, hbx, hcx⟩ := HR2.out.open (by omega)
      have hr := row_at hbx hcx HW.out hkx
      have HST := Lib.hid (Pl.encL_take hkx)
      have hve := HEV.out _ (List.getElem_mem hkx)
      have hk13 : 13 * k ≤ 2600 := by have := HL.out; omega
      clear hcx
      generalize S[k] = x at *
      generalize Pl.encL (S.take k) = Y at *
      obtain ⟨ek, er, ed, ec, rfl, _⟩ := Pl.nat_en hve
      have kk : IntKind.u8.wrap (ek : Int) = (ek : Int) % 256 := by first | rfl | (unfold IntKind.wrap; simp)
      have bz := Blk.new wo 72 zen
      have HBz := Lib.hid ((Below.refl wo.heap.size wo).alloc (Nat.le_refl _) (.cells zen 72))
      clear hkx hve
      go_wp2_with (first
        | (have h9 := bz
           refine st_en (k := ⟨ek, er, ed, ec⟩) bz rfl rfl _ _ rfl rfl rfl ?_
           clear h9
           intro w3 bX hO3
           have hb3 : Below wo.heap.size wo w3 := HBz.out.trans (hO3.below (Nat.le_refl _))
           have HO3 := Lib.hid (own_keep HO.out hb3)
           have HW3 := Lib.hid (HW.out.trans (hb3.mono HW.out.size))
           have q0 := bX.cell 0
           clear bz hO3 hb3 hr)
        | (have h9 := hr
           refine ldm_en hr rfl _ rfl rfl ?_
           clear h9)
        | (at_builtin
           go_loud (refine wpList_append_own _ rfl _ _ 29 rfl w2.heap.size 5 i0 _ 1 1 Try.underlying29 hi hz0 hz1 hz2 rfl (by decide) _ _ _ rfl (HO3.out.alloc _) ⟨w3.heap.size, 0, none⟩ 1 1 (flt u8L [UInt8.ofNat ek]) rfl rfl ?c2 (flt_one' encU8 _) (by unfold maxLen; omega) (by omega) (HW3.out.alloc HW3.out.size _).size ?_)
           (case c2 => rw [one_cell _]; exact new_cells _ _ _)
           intro v5 w5 hO5 hg5 _
           have bX5 := (bX.alloc _).grownBy hg5 (own_ne_blk HO3.out bX (by decide))
           have q1 : w5.cell? ⟨wo.heap.size, 1, none⟩ = some (.int .i64 (er : Nat)) := bX5.cell 1))
      have HW5 := Lib.hid ((HW3.out.alloc HW3.out.size _).grown hg5 (HW3.out.alloc HW3.out.size _).size (fun s h => (HO3.out.lt s h).1))
      have HO5 := Lib.hid hO5
      clear hO5 hg5 q0 bX
      go_wp2_with fail
      refine (withnum2_any w2.heap.size _ (13 * k + 1) er _ (by omega) _ HO5.out HW5.out.size).mono ?_
      rintro e w6 ⟨v6, rfl, hO6, hb6, hk6⟩
      have HW6 := Lib.hid (HW5.out.trans hb6)
      have bX6 := hk6 _ _ bX5
      have HO6 := Lib.hid hO6
      have q2 : w6.cell? ⟨wo.heap.size, 2, none⟩ = some (.int .i64 (ed : Nat)) := bX6.cell 2
      clear hO6 hb6 hk6 bX5 q1 HO5 HW5
      go_wp2_with fail
      refine (withnum2_any w2.heap.size _ (13 * k + 1 + 4) ed _ (by omega) _ HO6.out HW6.out.size).mono ?_
      rintro e w7 ⟨v7, rfl, hO7, hb7, hk7⟩
      have HW7 := Lib.hid (HW6.out.trans hb7)
      have bX7 := hk7 _ _ bX6
      have HO7 := Lib.hid hO7
      have q3 : w7.cell? ⟨wo.heap.size, 3, none⟩ = some (.int .i64 (ec : Nat)) := bX7.cell 3
      clear hO7 hb7 hk7 bX6 q2 HO6 HW6
      go_wp2_with fail
      refine (withnum2_any w2.heap.size _ (13 * k + 1 + 4 + 4) ec _ (by omega) _ HO7.out HW7.out.size).mono ?_
      rintro e w8 ⟨v8, rfl, hO8, hb8, hk8⟩
      have HW8 := Lib.hid (HW7.out.trans hb8)
      have HO8 := Lib.hid hO8
      clear hO8 hb8 hk8 bX7 q3 HO7 HW7
      go_wp2
      go_roundw
      case rel =>
        refine ⟨k + 1, _, by omega, rfl, by go_num, Lib.hid ?_, HW8⟩
        have h := HO8.out
        rw [HST.out, flt_append, enc1_cells, ← List.append_assoc, ← List.append_assoc, ← List.append_assoc, show 13 * (k + 1) = 13 * k + 1 + 4 + 4 + 4 by omega]
        exact h
      case measure => simp [intOf]; omega
    · obtain rfl : k = n := by omega
      have hO2 := HO.out
      rw [List.take_of_length_le (by rw [HSL.out]; exact Nat.le_refl _)] at hO2
      have HB3 := Lib.hid (HB2.out.trans (HW.out.mono HB2.out.size))
      have HO2 := Lib.hid (hO2.mono HB2.out.size)
      clear hO2 HO HW HB2
      go_wp2
      go_ret
      exact ⟨_, rfl, HO2.out, HB3.out⟩
set_option maxRecDepth 100000 in
set_option maxHeartbeats 4000000 in
theorem encode2_b (A : Option Addr) (l : List Pl.En) (c n : Nat) (hn : l.length = n) (hm : n ≤ maxLen) (w : World) (hI : Rows enL 4 w A l) :
    Calls Try.prog 34 #[.slice A n c] w fun e w' => ∃ v, e = .returned (.tuple #[v, .int .i64 (Pl.cdE l)]) ∧ w'.ownsRow w.heap.size 5 1 v (Pl.cdV l).length (flt u8L (Pl.cdV l)) ∧ Below w.heap.size w w' := by
  obtain ⟨y, hy⟩ : ∃ y, Pl.vB l = y := ⟨_, rfl⟩
  have HV := Lib.hid (valid_any A l c n hn hm y hy w hI)
  cases y
  · have H1 : Hid (Pl.cdE l = 90 ∧ Pl.cdV l = []) := Lib.hid (by unfold Pl.cdE Pl.cdV; rw [hy]; exact ⟨rfl, rfl⟩)
    rw [H1.out.1, H1.out.2]
    clear hy hI hn
    go_enter Try.func34, Try.ntmps34
    go_wp2_with fail
    refine HV.out.mono ?_
    rintro e w1 ⟨rfl, hb⟩
    go_wp2
    go_ret2
    exact ⟨_, rfl, World.ownsRow_nil _ _ _ _, hb⟩
  · have hvb := Pl.vb_iff.1 hy
    have H1 := Lib.hid (Pl.cd_ok hvb)
    have HL : Hid ((Pl.encL (Pl.srt l)).length = 13 * n) := Lib.hid (by rw [Pl.encL_len, Pl.srt_len, hn])
    rw [H1.out.1, H1.out.2, HL.out]
    have HE := Lib.hid (fun W (h : Below w.heap.size w W) => encoded_b A l c n hn hvb W (hI.below h))
    clear hy hI hn hvb
    go_enter Try.func34, Try.ntmps34
    go_wp2_with fail
    refine HV.out.mono ?_
    rintro e w1 ⟨rfl, hb⟩
    have HB := Lib.hid hb
    clear hb HV
    go_wp2_with fail
    refine (HE.out w1 HB.out).mono ?_
    rintro e w2 ⟨v, rfl, hO, hb2⟩
    have HO := Lib.hid (hO.mono HB.out.size)
    have hB2 := HB.out.trans (hb2.mono HB.out.size)
    clear hO hb2
    go_wp2
    go_ret2
    exact ⟨_, rfl, HO.out, hB2⟩
end Go.Proofs.Ytalfffkcmddakab
