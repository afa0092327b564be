/- The document's Format of a trace. -/
import Derived.Test.YthabpgclnbmnpaaGreatDoorT6
namespace Go.Proofs.YthabpgclnbmnpaaGreatDoor
open Go.RowKit Go.Shelf

theorem canon_in {l : List Geo.XY} (h : AllIn l) : AllIn (Geo.canon l) := by
  intro j hj
  rw [Geo.canon_length] at hj
  rw [Geo.canon_get l j hj]
  have hp : 0 < l.length := by omega
  have hm := Nat.mod_lt (Geo.lowIdx l l.length + j) hp
  have := h _ hm
  unfold Geo.At
  unfold Geo.X at this
  rwa [List.getD_eq_getElem?_getD]
set_option maxRecDepth 100000 in
set_option maxHeartbeats 2000000 in
theorem rformat_inv (j : ByteArray) (b : UInt8) (A : Option Addr) (l : List Geo.XY) (c : Nat) (hv : validB l = false) (w : World) (hP : Pts w A l) :
    Calls Tryz.prog 5 #[.agg #[.string j, .int .u8 b.toNat, .slice A l.length c]] w fun e w' => e = .returned (.tuple #[.string ⟨#[]⟩, .int .i64 10]) ∧ Below w.heap.size w w' := by
  have hB := (Below.refl w.heap.size w).alloc (Nat.le_refl _) (.cells #[.string j, .int .u8 b.toNat, .slice A l.length c] 24)
  have HV := Lib.hid (rvalid_b A l c _ (hP.below hB) false hv)
  have HB := Lib.hid hB
  clear hP hv hB
  go_enter Tryz.func5, Tryz.ntmps5
  go_wp2_with fail
  refine HV.out.mono ?_
  rintro e w1 ⟨rfl, hb1⟩
  have HB1 := Lib.hid (HB.out.trans (hb1.mono HB.out.size))
  clear hb1
  go_wp2_with fail
  go_ret2
  exact ⟨rfl, HB1.out⟩
set_option maxRecDepth 100000 in
set_option maxHeartbeats 4000000 in
theorem rformat_bad (j : ByteArray) (hj : j.size ≤ 9223372036854775807) (b : UInt8) (A : Option Addr) (l : List Geo.XY) (c : Nat) (hv : validB l = true) (hx : (Tx.jobB (Tx.byt j) && Tx.sideB b) = false) (w : World) (hP : Pts w A l) :
    Calls Tryz.prog 5 #[.agg #[.string j, .int .u8 b.toNat, .slice A l.length c]] w fun e w' => e = .returned (.tuple #[.string ⟨#[]⟩, .int .i64 3]) ∧ Below w.heap.size w w' := by
  have hB := (Below.refl w.heap.size w).alloc (Nat.le_refl _) (.cells #[.string j, .int .u8 b.toNat, .slice A l.length c] 24)
  have bF := Blk.new w 24 #[.string j, .int .u8 b.toNat, .slice A l.length c]
  have HV := Lib.hid (rvalid_b A l c _ (hP.below hB) true hv)
  obtain ⟨v, hvj⟩ : ∃ v, Tx.jobB (Tx.byt j) = v := ⟨_, rfl⟩
  have HJ := Lib.hid (rjob_any j hj v hvj)
  rw [hvj] at hx
  unfold Tx.sideB at hx
  have HB := Lib.hid hB
  have HF := Lib.hid bF
  have hFl := bF.lt
  clear hP hv hB bF hvj
  go_enter Tryz.func5, Tryz.ntmps5
  go_wp2_with fail
  refine HV.out.mono ?_
  rintro e w1 ⟨rfl, hb1⟩
  have HB1 := Lib.hid (HB.out.trans (hb1.mono HB.out.size))
  have bF1 := HF.out.below hb1 hFl
  have p0 := bF1.cell 0
  have p1 := bF1.cell 1
  have p2 := bF1.cell 2
  clear hb1 hFl HF
  generalize w.alloc (.cells #[.string j, .int .u8 b.toNat, .slice A l.length c] 24) = W at *
  cases v with
  | false =>
    clear hx
    go_wp2_with fail
    refine (HJ.out _).mono ?_
    rintro e w2 ⟨rfl, rfl⟩
    go_wp2_with fail
    go_ret2
    exact ⟨rfl, HB1.out⟩
  | true =>
    have hx2 : b.toNat ≠ 82 ∧ b.toNat ≠ 76 := by simpa using hx
    have q1 : ((b.toNat : Int) != 82) = true := by rw [bne_iff_ne]; omega
    have q2 : ((b.toNat : Int) != 76) = true := by rw [bne_iff_ne]; omega
    clear hx hx2
    go_wp2_with fail
    refine (HJ.out _).mono ?_
    rintro e w2 ⟨rfl, rfl⟩
    go_wp2_with fail
    go_ret2
    exact ⟨rfl, HB1.out⟩
set_option maxRecDepth 100000 in
set_option maxHeartbeats 4000000 in
theorem rformat_ok (j : ByteArray) (b : UInt8) (A : Option Addr) (l : List Geo.XY) (c : Nat) (hcap : l.length ≤ c) (hv : validB l = true) (hjv : Tx.jobB (Tx.byt j) = true) (hsv : Tx.sideB b = true) (w : World) (hP : Pts w A l) :
    Calls Tryz.prog 5 #[.agg #[.string j, .int .u8 b.toNat, .slice A l.length c]] w fun e w' => e = .returned (.tuple #[.string ⟨(Tx.txt (Tx.byt j) b (Geo.canon l)).toArray⟩, .int .i64 0]) ∧ Below w.heap.size w w' := by
  have hval := valid_of hv
  have hj12 : j.size ≤ 12 := by
    rw [jobB_eq, Tx.byt_len] at hjv
    simp at hjv
    omega
  have hl3 := hval.1
  have hl64 := hval.2.1
  have hB := (Below.refl w.heap.size w).alloc (Nat.le_refl _) (.cells #[.string j, .int .u8 b.toNat, .slice A l.length c] 24)
  have bF := Blk.new w 24 #[.string j, .int .u8 b.toNat, .slice A l.length c]
  have HV := Lib.hid (rvalid_b A l c _ (hP.below hB) true hv)
  have HJ := Lib.hid (rjob_any j (by omega) true hjv)
  have HFR : Hid (∀ (A' : Option Addr) (c' : Nat) (w : World), Pts w A' (Geo.canon l) → Calls Tryz.prog 20 #[.agg #[.string j, .int .u8 b.toNat, .slice A' l.length c']] w fun e w' => e = .returned (.string ⟨(Tx.front (Tx.byt j) b (Geo.canon l)).toArray⟩) ∧ Below w.heap.size w w') := Lib.hid (fun A' c' w hP => by
    have h := rfront_any j hj12 b A' (Geo.canon l) c' (by rw [Geo.canon_length]; omega) (by rw [Geo.canon_length]; omega) w hP (canon_in hval.allin)
    rw [Geo.canon_length] at h
    exact h)
  have HCT := Lib.hid (fun w1 hP1 => rcanon_p A l c (by omega) hl64 hcap w1 hP1)
  obtain ⟨FR, hFR⟩ : ∃ FR, Tx.front (Tx.byt j) b (Geo.canon l) = FR := ⟨_, rfl⟩
  have hFL : FR.length ≤ 1900 := by rw [← hFR]; exact front_len _ _ _ (by rw [Tx.byt_len]; exact hj12) (by rw [Geo.canon_length]; omega) (canon_in hval.allin)
  have HTX : Hid (Tx.txt (Tx.byt j) b (Geo.canon l) = Tx.byt (⟨FR.toArray⟩ ++ ⟨#[83, 85, 77, 32]⟩ ++ ⟨(Tx.hex4 (Tx.sumN FR)).toArray⟩ ++ ⟨#[10]⟩)) := Lib.hid (by
    unfold Tx.txt
    rw [hFR]
    unfold Tx.byt
    simp [ByteArray.data_append])
  have HSM := Lib.hid (rsum_any ⟨FR.toArray⟩ (by rw [bsz]; omega))
  rw [Tx.byt_mk] at HSM
  rw [hFR] at HFR
  have k1 : ¬ 9223372036854775807 < FR.length + 4 := by omega
  have hx4 : (Tx.hex4 (Tx.sumN FR)).length = 4 := rfl
  have k2 : ¬ 9223372036854775807 < FR.length + 4 + (Tx.hex4 (Tx.sumN FR)).length := by omega
  have k3 : ¬ 9223372036854775807 < FR.length + 4 + (Tx.hex4 (Tx.sumN FR)).length + 1 := by omega
  clear hx4
  obtain ⟨TX, hTX⟩ : ∃ TX, Tx.txt (Tx.byt j) b (Geo.canon l) = TX := ⟨_, rfl⟩
  rw [hTX] at HTX ⊢
  have hsd : b.toNat = 82 ∨ b.toNat = 76 := by unfold Tx.sideB at hsv; simpa using hsv
  have HB := Lib.hid hB
  have HF := Lib.hid bF
  have hFl := bF.lt
  have HP := Lib.hid hP
  have hcl := Geo.canon_length l
  clear hP hv hB bF hval hjv hsv hTX hFR
  generalize Geo.canon l = cl at *
  generalize Tx.hex4 (Tx.sumN FR) = sm at *
  obtain ⟨s1, s2, q1, q2, hs12⟩ : ∃ s1 s2, ((b.toNat : Int) != 82) = s1 ∧ ((b.toNat : Int) != 76) = s2 ∧ (s1 = false ∨ (s1 = true ∧ s2 = false)) := by
    rcases hsd with h | h
    · exact ⟨_, _, rfl, rfl, .inl (by rw [bne_eq_false_iff_eq]; omega)⟩
    · exact ⟨_, _, rfl, rfl, .inr ⟨by rw [bne_iff_ne]; omega, by rw [bne_eq_false_iff_eq]; omega⟩⟩
  clear hsd
  go_enter Tryz.func5, Tryz.ntmps5
  go_wp2_with fail
  refine HV.out.mono ?_
  rintro e w1 ⟨rfl, hb1⟩
  have HB1 := Lib.hid (HB.out.trans (hb1.mono HB.out.size))
  have bF1 := HF.out.below hb1 hFl
  have p0 := bF1.cell 0
  have p1 := bF1.cell 1
  have p2 := bF1.cell 2
  have HP1 := Lib.hid (HP.out.below HB1.out)
  have hFl1 := bF1.lt
  have HF1 := Lib.hid bF1
  clear hb1 hFl HF bF1 HB HP
  generalize w.alloc (.cells #[.string j, .int .u8 b.toNat, .slice A l.length c] 24) = W at *
  rcases hs12 with rfl | ⟨rfl, rfl⟩
  all_goals
    go_wp2_with fail
    refine (HJ.out _).mono ?_
    rintro e w2 ⟨rfl, rfl⟩
    go_wp2_with fail
    refine (HCT.out _ HP1.out).mono ?_
    rintro e w3 ⟨v, rfl, hown, hb3⟩
    obtain ⟨A', c', rfl, _⟩ := pts_of_owns hown
    have HO := Lib.hid hown
    have HB3 := Lib.hid (HB1.out.trans (hb3.mono HB1.out.size))
    have bF3 := HF1.out.below hb3 hFl1
    have p0 := bF3.cell 0
    have p1 := bF3.cell 1
    have p2 := bF3.cell 2
    have z2 := bF3.frozen 2
    have HF3 := Lib.hid bF3
    clear hown hb3 bF3
    go_wp2_with fail
    have hP4 : Pts (w3.setCell ⟨w.heap.size, 2, none⟩ (.slice A' l.length c')) A' cl := by
      obtain ⟨A2, c2, e2, h2⟩ := pts_of_owns (ownsRow_setCell_below HO.out (a := ⟨w.heap.size, 2, none⟩) hFl1 (.slice A' l.length c'))
      cases e2
      exact h2
    refine (HFR.out A' c' _ hP4).mono ?_
    rintro e w4 ⟨rfl, hb4⟩
    have HB4 := Lib.hid ((HB3.out.setCell (p := ⟨w.heap.size, 2, none⟩) (Nat.le_refl _) (.slice A' l.length c')).trans (hb4.mono (by have := HB3.out.size; simpa using this)))
    clear hP4 hb4 p0 p1 p2 z2 HO
    go_wp2_with fail
    refine (HSM.out _).mono ?_
    rintro e w5 ⟨rfl, hb5⟩
    have HB5 := Lib.hid (HB4.out.trans (hb5.mono HB4.out.size))
    clear hb5
    go_wp2_with fail
    go_ret2
    refine ⟨?_, HB5.out⟩
    rw [HTX.out]
    rw [Tx.byt_back]
    rfl
end Go.Proofs.YthabpgclnbmnpaaGreatDoor
