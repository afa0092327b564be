/- Reading: the lines of the corners. -/
import Derived.Test.YthabpgclnbmnpaaGreatDoorT10
import Derived.Deep.LoopGhost
namespace Go.Proofs.YthabpgclnbmnpaaGreatDoor
open Go.RowKit Go.Shelf

theorem dcm_plain (z : Int) : ∀ b, b ∈ Tx.dcm z → b ≠ 10 ∧ b ≠ 32 ∧ b ≠ 83 := by
  have hd : ∀ n b, b ∈ Tx.dgs n → b ≠ 10 ∧ b ≠ 32 ∧ b ≠ 83 := fun n b hb => by
    have := Tx.dgs_all n b hb
    refine ⟨?_, ?_, ?_⟩ <;> (rintro rfl; revert this; decide)
  intro b hb
  unfold Tx.dcm at hb
  split at hb
  · rcases List.mem_cons.1 hb with rfl | hb
    · decide
    · exact hd _ b hb
  · exact hd _ b hb
theorem dcm_ne (z : Int) : ∃ c r, Tx.dcm z = c :: r := by
  unfold Tx.dcm
  split
  · exact ⟨_, _, rfl⟩
  · obtain ⟨c, r, h, _⟩ := dgs_form z.toNat
    exact ⟨c, r, h⟩
theorem rowP_plain (x : Geo.XY) : ∀ b, b ∈ Tx.rowP x → b ≠ 10 := by
  intro b hb
  unfold Tx.rowP at hb
  rcases List.mem_append.1 hb with h | h
  · exact (dcm_plain _ b h).1
  · rcases List.mem_cons.1 h with rfl | h
    · decide
    · exact (dcm_plain _ b h).1
theorem rowP_nosum (x : Geo.XY) (l : List UInt8) : Lib.hasPrefix (Tx.rowP x ++ l) [83, 85, 77, 32] = false := by
  obtain ⟨c, r, h⟩ := dcm_ne x.1
  have hc := (dcm_plain x.1 c (by rw [h]; simp)).2.2
  unfold Tx.rowP Lib.hasPrefix
  rw [h]
  have : ((83 : UInt8) == c) = false := by rw [beq_eq_false_iff_ne]; exact fun e => hc e.symm
  simp [List.isPrefixOf, this]
theorem rows_cut (l : List Geo.XY) (k : Nat) (h : k < l.length) (rest : List UInt8) : Tx.flat10 ((l.drop k).map Tx.rowP) ++ rest = Tx.rowP (Geo.X l k) ++ 10 :: (Tx.flat10 ((l.drop (k + 1)).map Tx.rowP) ++ rest) := by
  rw [List.drop_eq_getElem_cons h]
  have hx : Geo.X l k = l[k] := by unfold Geo.X; simp [h]
  unfold Tx.flat10
  rw [List.map_cons, List.flatMap_cons, hx]
  simp
theorem take_flat (l : List Geo.XY) (k : Nat) (h : k < l.length) : flat (l.take (k + 1)) = flat (l.take k) ++ [.int .i64 (Geo.X l k).1, .int .i64 (Geo.X l k).2] := by
  rw [List.take_succ_eq_append_getElem h]
  have hx : Geo.X l k = l[k] := by unfold Geo.X; simp [h]
  rw [flat_append, hx]
  rfl
set_option maxRecDepth 100000 in
set_option maxHeartbeats 4000000 in
theorem corners_any (P p : Nat) (T : ByteArray) (l : List Geo.XY) (hl : l.length ≤ 64) (hA : AllIn l) (rest : List UInt8) (hT : (Tx.byt T).drop p = Tx.flat10 (l.map Tx.rowP) ++ rest) (hs : Lib.hasPrefix rest [83, 85, 77, 32] = true) (hm : T.size ≤ 1000000) (w : World) (hB : Blk w P 71 #[.string T, .int .i64 p]) :
    Calls Tryz.prog 67 #[.pointer (some ⟨P, 0, none⟩)] w fun e w' => ∃ v, e = .returned v ∧ w'.ownsRow w.heap.size 42 2 v l.length (flat l) ∧ Blk w' P 71 #[.string T, .int .i64 (p + (Tx.flat10 (l.map Tx.rowP)).length : Nat)] ∧ Fr P w w' := by
  obtain ⟨i0, hi, hz0, hz1, hz2⟩ := info_parts info38'
  have HN := Lib.hid (fun w => need_ok 3 w)
  have HA := Lib.hid hA
  have HM := Lib.hid hm
  have hlt := hB.lt
  have HTQ : Hid (∀ k q, k ≤ l.length → q = p + (Tx.flat10 ((l.take k).map Tx.rowP)).length → (Tx.byt T).drop q = Tx.flat10 ((l.drop k).map Tx.rowP) ++ rest ∧ q ≤ T.size) := Lib.hid (by
    intro k q hk hq
    have hsp : Tx.flat10 (l.map Tx.rowP) = Tx.flat10 ((l.take k).map Tx.rowP) ++ Tx.flat10 ((l.drop k).map Tx.rowP) := by
      unfold Tx.flat10
      rw [← List.flatMap_append, ← List.map_append, List.take_append_drop]
    have h1 : ((Tx.byt T).drop p).drop (Tx.flat10 ((l.take k).map Tx.rowP)).length = Tx.flat10 ((l.drop k).map Tx.rowP) ++ rest := by
      rw [hT, hsp, List.append_assoc, List.drop_left']
      rfl
    rw [List.drop_drop, ← hq] at h1
    refine ⟨h1, ?_⟩
    rcases Nat.lt_or_ge T.size q with h | h
    · exfalso
      rw [List.drop_of_length_le (by rw [Tx.byt_len]; omega)] at h1
      have h2 := congrArg List.length h1
      rw [List.length_append] at h2
      cases hr : rest with
      | nil => rw [hr] at hs; cases hs
      | cons a b => rw [hr] at h2; simp at h2
    · exact h)
  have HR := Lib.hid hs
  have HB := Lib.hid hB
  clear hA hT hs hB hm
  go_enter Tryz.func67, Tryz.ntmps67
  go_wp2_with fail
  go_loopg [3] l.length (fun gk v wr => ∃ k : Nat, k ≤ l.length ∧ gk = l.length - k ∧ wr.ownsRow w.heap.size 42 2 v k (flat (l.take k)) ∧ Blk wr P 71 #[.string T, .int .i64 (p + (Tx.flat10 ((l.take k).map Tx.rowP)).length : Nat)] ∧ Fr P w wr)
  case atStart => exact ⟨0, Nat.zero_le _, rfl, World.ownsRow_nil _ _ _ _, by simpa [Tx.flat10] using HB.out, Fr.refl _ _⟩
  case round =>
    obtain ⟨k, hk, rfl, hown, hbk, hfr⟩ := hrel
    obtain ⟨wo, rfl⟩ : ∃ wo, wo = wr := ⟨_, rfl⟩
    obtain ⟨hdr, hqs⟩ := HTQ.out k _ hk rfl
    have hqn : p + (Tx.flat10 ((l.take (k + 1)).map Tx.rowP)).length = p + (Tx.flat10 ((l.take (k + 1)).map Tx.rowP)).length := rfl
    have HQN : Hid (∀ (h : k < l.length), p + (Tx.flat10 ((l.take k).map Tx.rowP)).length + (Tx.rowP (Geo.X l k)).length + 1 = p + (Tx.flat10 ((l.take (k + 1)).map Tx.rowP)).length) := Lib.hid (fun h => by
      rw [rows_more l k h]
      simp only [List.length_append, List.length_cons, List.length_nil]
      omega)
    have HF := Lib.hid hfr
    have HO := Lib.hid hown
    have HBK := Lib.hid hbk
    have q0 := fun s : Ext wo => s.cell (p := ⟨P, 0, none⟩) (hbk.cell 0)
    have q1 := fun s : Ext wo => s.cell (p := ⟨P, 1, none⟩) (hbk.cell 1)
    have hltw := hbk.lt
    have htl := tail_str T _ _ hdr
    have HH : Hid (∀ W : World, Calls Tryz.prog 88 #[.string ⟨(Tx.flat10 ((l.drop k).map Tx.rowP) ++ rest).toArray⟩, .string ⟨#[83, 85, 77, 32]⟩] W fun e w' => e = .returned (.bool (Lib.hasPrefix (⟨(Tx.flat10 ((l.drop k).map Tx.rowP) ++ rest).toArray⟩ : ByteArray).data.toList (⟨#[83, 85, 77, 32]⟩ : ByteArray).data.toList)) ∧ Below W.heap.size W w') := Lib.hid (fun W => by
      refine (Tryz.strings_HasPrefix ⟨(Tx.flat10 ((l.drop k).map Tx.rowP) ++ rest).toArray⟩ ⟨#[83, 85, 77, 32]⟩ W).mono ?_
      rintro e w' ⟨rfl, rfl⟩
      exact ⟨rfl, Below.refl _ _⟩)
    have e1 : (⟨(Tx.flat10 ((l.drop k).map Tx.rowP) ++ rest).toArray⟩ : ByteArray).data.toList = Tx.flat10 ((l.drop k).map Tx.rowP) ++ rest := by simp
    have e2 : (⟨#[83, 85, 77, 32]⟩ : ByteArray).data.toList = [83, 85, 77, 32] := rfl
    rw [e1, e2] at HH
    have HDR := Lib.hid hdr
    have k0 : (0 : Int) ≤ (p + (Tx.flat10 ((l.take k).map Tx.rowP)).length : Nat) := by omega
    have k1 : ((p + (Tx.flat10 ((l.take k).map Tx.rowP)).length : Nat) : Int) ≤ T.size := by omega
    clear hown hbk hfr e1 e2 hdr hqn
    by_cases hklt : k < l.length
    · have HLT := Lib.hid hklt
      have hcut := rows_cut l k hklt rest
      have hpf : Lib.hasPrefix (Tx.flat10 ((l.drop k).map Tx.rowP) ++ rest) [83, 85, 77, 32] = false := by rw [hcut]; exact rowP_nosum _ _
      rw [hpf] at HH
      have HLN := Lib.hid (fun (w1 : World) (h : Blk w1 P 71 #[.string T, .int .i64 (p + (Tx.flat10 ((l.take k).map Tx.rowP)).length : Nat)]) => line_any P _ T (Tx.rowP (Geo.X l k)) (Tx.flat10 ((l.drop (k + 1)).map Tx.rowP) ++ rest) (HDR.out.trans hcut) (rowP_plain _) HM.out w1 h)
      rw [HQN.out hklt] at HLN
      have hin := HA.out k hklt
      have hin2 : (-1000000 ≤ (Geo.X l k).1 ∧ (Geo.X l k).1 ≤ 1000000) ∧ (-1000000 ≤ (Geo.X l k).2 ∧ (Geo.X l k).2 ≤ 1000000) := by unfold Geo.In at hin; omega
      have hd1 := dcm_len _ (in_small hin).1
      have hd2 := dcm_len _ (in_small hin).2
      have HCU := Lib.hid (cut_at ⟨(Tx.rowP (Geo.X l k)).toArray⟩ 32 (Tx.dcm (Geo.X l k).1) (Tx.dcm (Geo.X l k).2) (by rw [Tx.byt_mk]; rfl) (fun b hb => (dcm_plain _ b hb).2.1) (by rw [bsz]; unfold Tx.rowP; simp; omega))
      have HC1 := Lib.hid (coord_any _ hin2.1)
      have HC2 := Lib.hid (coord_any _ hin2.2)
      have HTF := Lib.hid (take_flat l k hklt)
      clear hpf hcut hin hin2 hd1 hd2 hklt HDR HQN
      generalize (p + (Tx.flat10 ((l.take k).map Tx.rowP)).length : Nat) = q at *
      generalize Tx.flat10 ((l.drop k).map Tx.rowP) ++ rest = D at *
      generalize Tx.rowP (Geo.X l k) = R at *
      generalize Tx.dcm (Geo.X l k).1 = s1 at *
      generalize Tx.dcm (Geo.X l k).2 = s2 at *
      generalize Geo.X l k = x at *
      go_wp2_with fail
      refine wp_region_ext (by kernel_rfl) (by kernel_rfl) ?_
      repeat (go_big_quiet_step (first | (go_at_call 88; refine calls_ext (HH.out _))))
      refine wpQuiet_nil ?_
      rintro _ ⟨s, rfl⟩
      have HF1 := Lib.hid (HF.out.trans (Fr.of s.h))
      have HO1 := Lib.hid (keep_own HO.out s.h)
      have HB1 := Lib.hid (HBK.out.below s.h hltw)
      clear q0 q1 HF HO HBK hltw
      generalize s.w = w1 at *
      clear s
      go_wp2_with fail
      refine (HLN.out w1 HB1.out).mono ?_
      rintro e w2 ⟨rfl, hb2, hf2⟩
      have HB2 := Lib.hid hb2
      have HO2 := Lib.hid (hf2.own HO1.out (fun e => by have := (HO1.out.lt P e).1; omega))
      have HF2 := Lib.hid (HF1.out.trans hf2)
      clear hb2 hf2 HF1 HB1 HO1 HLN
      go_wp2_with fail
      refine (HCU.out _).mono ?_
      rintro e w3 ⟨rfl, hb3⟩
      have HF3 := Lib.hid (HF2.out.trans (Fr.of hb3))
      have HO3 := Lib.hid (keep_own HO2.out hb3)
      have HB3 := Lib.hid (HB2.out.below hb3 HB2.out.lt)
      clear hb3 HF2 HO2 HB2 HCU
      go_wp2_with fail
      refine (HN.out _).mono ?_
      rintro e w4 ⟨rfl, rfl⟩
      go_wp2_with fail
      refine (HC1.out _).mono ?_
      rintro e w4 ⟨rfl, hb4⟩
      have HF4 := Lib.hid (HF3.out.trans (Fr.of hb4))
      have HO4 := Lib.hid (keep_own HO3.out hb4)
      have HB4 := Lib.hid (HB3.out.below hb4 HB3.out.lt)
      clear hb4 HF3 HO3 HB3 HC1
      go_wp2_with fail
      refine (HC2.out _).mono ?_
      rintro e w5 ⟨rfl, hb5⟩
      have HF5 := Lib.hid (HF4.out.trans (Fr.of hb5))
      have HO5 := Lib.hid (keep_own HO4.out hb5)
      have HB5 := Lib.hid (HB4.out.below hb5 HB4.out.lt)
      clear hb5 HF4 HO4 HB4 HC2
      go_wp2_with (at_builtin; refine wpList_append_own _ rfl _ _ 22 rfl w.heap.size 42 i0 _ 2 16 Tryz.underlying22 hi hz0 hz1 hz2 rfl (by decide) _ _ _ rfl (HO5.out.alloc _) ⟨w5.heap.size, 0, none⟩ 1 1 [.int .i64 x.1, .int .i64 x.2] rfl rfl ?c1 ?c2 ?c3 ?c4 ?c5 ?_)
      case c1 => exact new_cells _ _ _
      case c2 => exact one_two _ _
      case c3 => unfold maxLen; omega
      case c4 => omega
      case c5 => have := HF5.out.size; simp; omega
      intro v' w6 hown6 hg6 _
      have hltw5 : P < w5.heap.size := HB5.out.lt
      have HF6 : Hid (Fr P w w6) := Lib.hid (by
        have h1 : Fr P w (w5.alloc (.cells #[.int .i64 x.1, .int .i64 x.2] 42)) := HF5.out.trans (Fr.of ((Below.refl _ _).alloc (Nat.le_refl _) _))
        exact ⟨hg6.os.trans h1.os, hg6.tape.trans h1.tape, hg6.output.trans h1.output, Nat.le_trans h1.size hg6.size, fun j hj hn => (hg6.block j (Nat.lt_of_lt_of_le hj h1.size) (fun e => by have := (HO5.out.lt j e.symm).1; omega)).trans (h1.block j hj hn)⟩)
      have HB6 := Lib.hid ((HB5.out.alloc (.cells #[.int .i64 x.1, .int .i64 x.2] 42)).grownBy hg6 (own_ne_blk HO5.out HB5.out (by decide)))
      have HO6 : Hid (w6.ownsRow w.heap.size 42 2 v' (k + 1) (flat (l.take (k + 1)))) := Lib.hid (by rw [HTF.out]; exact hown6)
      clear hg6 hown6
      go_wp2_with fail
      go_roundg (l.length - (k + 1))
      case measure => have := HLT.out; omega
      case rel => exact ⟨k + 1, HLT.out, rfl, HO6.out, HB6.out, HF6.out⟩
    · obtain rfl : k = l.length := by omega
      have hpf : Lib.hasPrefix (Tx.flat10 ((l.drop l.length).map Tx.rowP) ++ rest) [83, 85, 77, 32] = true := by
        rw [List.drop_length]
        exact HR.out
      rw [hpf] at HH
      rw [List.take_length] at *
      clear hpf HQN HDR
      generalize Tx.flat10 ((l.drop l.length).map Tx.rowP) ++ rest = D at *
      generalize hq : (p + (Tx.flat10 (l.map Tx.rowP)).length : Nat) = q at *
      have HQ := Lib.hid hq
      clear hq
      go_wp2_with fail
      refine wp_region_ext (by kernel_rfl) (by kernel_rfl) ?_
      repeat (go_big_quiet_step (first | (go_at_call 88; refine calls_ext (HH.out _))))
      refine wpQuiet_nil ?_
      rintro _ ⟨s, rfl⟩
      have HF1 := Lib.hid (HF.out.trans (Fr.of s.h))
      have HO1 := Lib.hid (keep_own HO.out s.h)
      have HB1 := Lib.hid (HBK.out.below s.h hltw)
      clear q0 q1 HF HO HBK hltw
      generalize s.w = w1 at *
      clear s
      go_wp2_with fail
      go_ret
      exact ⟨_, rfl, HO1.out, by rw [HQ.out]; exact HB1.out, HF1.out⟩
end Go.Proofs.YthabpgclnbmnpaaGreatDoor
