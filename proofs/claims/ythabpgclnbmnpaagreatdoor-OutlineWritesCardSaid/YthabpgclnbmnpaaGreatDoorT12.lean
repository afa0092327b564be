/- Reading: the trace of a text that was written. -/
import Derived.Test.YthabpgclnbmnpaaGreatDoorT11
import Derived.Deep.RegionWith
namespace Go.Proofs.YthabpgclnbmnpaaGreatDoor
open Go.RowKit Go.Shelf

theorem head_str (T : ByteArray) (F R : List UInt8) (p : Nat) (h : Tx.byt T = F ++ R) (hp : (Tx.byt T).drop p = R) (hR : R ≠ []) : T.extract 0 p = ⟨F.toArray⟩ ∧ p ≤ T.size := by
  have hl := congrArg List.length hp
  have hl2 := congrArg List.length h
  rw [List.length_drop] at hl
  rw [List.length_append] at hl2
  have h0 : 0 < R.length := List.length_pos_iff.2 hR
  have hpF : p = F.length := by omega
  refine ⟨?_, by rw [← Tx.byt_len]; omega⟩
  subst hpF
  rw [← Tx.byt_back T, h]
  apply ByteArray.ext
  rw [ByteArray.data_extract]
  apply Array.toList_inj.1
  simp
theorem hex_of (n : Nat) (hn : n < 65536) : Tx.ofB [48, 49, 50, 51, 52, 53, 54, 55, 56, 57, 65, 66, 67, 68, 69, 70] (Tx.hex4 n) = true := by
  have hd : ∀ k : Fin 16, 0 ≤ Lib.indexByte [48, 49, 50, 51, 52, 53, 54, 55, 56, 57, 65, 66, 67, 68, 69, 70] (Tx.hx k.val) := by decide +kernel
  have hd' : ∀ k, k < 16 → 0 ≤ Lib.indexByte [48, 49, 50, 51, 52, 53, 54, 55, 56, 57, 65, 66, 67, 68, 69, 70] (Tx.hx k) := fun k h => hd ⟨k, h⟩
  unfold Tx.ofB Tx.hex4
  simp only [List.all_cons, List.all_nil, Bool.and_true, List.isEmpty_cons, Bool.not_false, Bool.and_eq_true, decide_eq_true_eq]
  exact ⟨hd' _ (by omega), hd' _ (by omega), hd' _ (by omega), hd' _ (by omega)⟩
theorem hx_plain (k : Nat) (h : k < 16) : Tx.hx k ≠ 10 := by
  have : ∀ k : Fin 16, Tx.hx k.val ≠ 10 := by decide +kernel
  exact this ⟨k, h⟩
theorem hex_plain (n : Nat) (hn : n < 65536) : ∀ b, b ∈ Tx.hex4 n → b ≠ 10 := by
  intro b hb
  unfold Tx.hex4 at hb
  simp at hb
  rcases hb with rfl | rfl | rfl | rfl <;> exact hx_plain _ (by omega)
theorem job_plain {j : List UInt8} (h : Tx.jobB j = true) : ∀ b, b ∈ j → b ≠ 10 := by
  intro b hb
  rw [jobB_eq] at h
  simp only [Bool.and_eq_true, List.all_eq_true] at h
  have := h.2 b hb
  rintro rfl
  revert this
  decide
theorem side_plain {b : UInt8} (h : Tx.sideB b = true) : b ≠ 10 := by
  rintro rfl
  revert h
  decide
theorem mem_pre {m j : List UInt8} (hm : ∀ b, b ∈ m → b ≠ 10) (hj : ∀ b, b ∈ j → b ≠ 10) : ∀ b, b ∈ m ++ j → b ≠ 10 := fun b hb => (List.mem_append.1 hb).elim (hm b) (hj b)
theorem pts_cap {W : World} {base : Nat} {v : Value} {ps : List Geo.XY} (h : W.ownsRow base 42 2 v ps.length (flat ps)) : ∃ A c, v = .slice A ps.length c ∧ Pts W A ps ∧ ps.length ≤ c := by
  obtain ⟨A, c, rfl, hp⟩ := pts_of_owns h
  refine ⟨A, c, rfl, hp, ?_⟩
  rcases h with ⟨_, ⟨he, h0⟩ | ⟨g, cap, cur, he, hg, hcell, hx⟩⟩
  · omega
  · cases he
    exact hx.1
theorem Fr.far {P g : Nat} {w w' : World} (h : Fr P w w') (hg : w.heap.size ≤ g) (i : Nat) (v : Value) : Fr P w (w'.setCell ⟨g, i, none⟩ v) := by
  have h2 := (Below.refl g w').setCell (p := ⟨g, i, none⟩) (Nat.le_refl _) v
  exact ⟨h2.os.trans h.os, h2.tape.trans h.tape, h2.output.trans h.output, Nat.le_trans h.size h2.size, fun j hj hn => (h2.block j (by omega)).trans (h.block j hj hn)⟩
theorem eqB_self (a : List Geo.XY) : eqB a a = true := by
  unfold eqB
  simp
theorem clone_any (s : ByteArray) (hs : s.size ≤ 1000000) (w : World) : Calls Tryz.prog 69 #[.string s] w fun e w' => e = .returned (.string s) ∧ Below w.heap.size w w' := by
  have HC := Lib.hid (Tryz.stringslite_Clone s w (by omega))
  go_enter Tryz.func69, Tryz.ntmps69
  go_wp2_with fail
  refine HC.out.mono ?_
  rintro e w1 ⟨rfl, hb⟩
  go_wp2_with fail
  go_ret
  exact ⟨rfl, hb⟩
set_option maxRecDepth 100000 in
set_option maxHeartbeats 8000000 in
theorem trace_any (P : Nat) (T j : ByteArray) (b : UInt8) (cl : List Geo.XY) (hv : validB cl = true) (hc : Geo.canon cl = cl) (hjv : Tx.jobB (Tx.byt j) = true) (hsv : Tx.sideB b = true) (hT : Tx.byt T = Tx.txt (Tx.byt j) b cl) (w w0 : World) (hE : EnvT w0) (hE0 : Below w0.heap.size w0 w) (hEP : w0.heap.size ≤ P) (hB : Blk w P 71 #[.string T, .int .i64 0]) :
    Calls Tryz.prog 46 #[.pointer (some ⟨P, 0, none⟩)] w fun e w' => ∃ v, e = .returned (.agg #[.string j, .int .u8 b.toNat, v]) ∧ w'.ownsRow w.heap.size 42 2 v cl.length (flat cl) ∧ Fr P w w' := by
  have hval := valid_of hv
  have hl3 := hval.1
  have hl64 := hval.2.1
  have hj12 : j.size ≤ 12 := by
    rw [jobB_eq, Tx.byt_len] at hjv
    simp at hjv
    omega
  have hfl := front_len (Tx.byt j) b cl (by rw [Tx.byt_len]; exact hj12) hl64 hval.allin
  have hTz : T.size ≤ 1000000 := by
    rw [← Tx.byt_len, hT]
    unfold Tx.txt
    rw [List.length_append]
    have : (83 :: 85 :: 77 :: 32 :: (Tx.hex4 (Tx.sumN (Tx.front (Tx.byt j) b cl)) ++ [10])).length = 9 := rfl
    omega
  have hsn := Tx.sumN_lt (Tx.front (Tx.byt j) b cl)
  obtain ⟨FR, hFR⟩ : ∃ FR, Tx.front (Tx.byt j) b cl = FR := ⟨_, rfl⟩
  have hT5 : Tx.byt T = FR ++ ((Tx.byt ⟨#[83, 85, 77, 32]⟩ ++ Tx.hex4 (Tx.sumN FR)) ++ 10 :: []) := by rw [hT, Tx.txt, hFR]; rfl
  obtain ⟨R5, hR5⟩ : ∃ R, (Tx.byt ⟨#[83, 85, 77, 32]⟩ ++ Tx.hex4 (Tx.sumN FR)) ++ 10 :: [] = R := ⟨_, rfl⟩
  obtain ⟨R4, hR4⟩ : ∃ R, Tx.flat10 (cl.map Tx.rowP) ++ R5 = R := ⟨_, rfl⟩
  obtain ⟨R3, hR3⟩ : ∃ R, (Tx.byt ⟨#[80, 79, 73, 78, 84, 83, 32]⟩ ++ Tx.dgs cl.length) ++ 10 :: R4 = R := ⟨_, rfl⟩
  obtain ⟨R2, hR2⟩ : ∃ R, (Tx.byt ⟨#[83, 73, 68, 69, 32]⟩ ++ [b]) ++ 10 :: R3 = R := ⟨_, rfl⟩
  obtain ⟨R1, hR1⟩ : ∃ R, (Tx.byt ⟨#[74, 79, 66, 32]⟩ ++ Tx.byt j) ++ 10 :: R2 = R := ⟨_, rfl⟩
  have h0 : (Tx.byt T).drop 0 = [84, 82, 65, 67, 69, 32, 49] ++ 10 :: R1 := by
    rw [List.drop_zero, hT5, hR5, ← hFR, ← hR1, ← hR2, ← hR3, ← hR4]
    unfold Tx.front Tx.rows Tx.flat10 Tx.byt
    simp
  have h1 := drop_next h0
  have HL := Lib.hid (fun w hB => line_any P 0 T [84, 82, 65, 67, 69, 32, 49] R1 h0 (by decide) hTz w hB)
  generalize hp1 : 0 + [84, 82, 65, 67, 69, 32, 49].length + 1 = p1 at *
  rw [← hR1] at h1
  have h2 := drop_next h1
  have HA1 := Lib.hid (fun w hB => after_any P p1 T ⟨#[74, 79, 66, 32]⟩ (Tx.byt j) R2 h1 (mem_pre (by decide) (job_plain hjv)) hTz w hB)
  generalize hp2 : p1 + (Tx.byt ⟨#[74, 79, 66, 32]⟩ ++ Tx.byt j).length + 1 = p2 at *
  rw [← hR2] at h2
  have h3 := drop_next h2
  have HA2 := Lib.hid (fun w hB => after_any P p2 T ⟨#[83, 73, 68, 69, 32]⟩ [b] R3 h2 (mem_pre (by decide) (by simpa using side_plain hsv)) hTz w hB)
  generalize hp3 : p2 + (Tx.byt ⟨#[83, 73, 68, 69, 32]⟩ ++ [b]).length + 1 = p3 at *
  rw [← hR3] at h3
  have h4 := drop_next h3
  have HA3 := Lib.hid (fun w hB => after_any P p3 T ⟨#[80, 79, 73, 78, 84, 83, 32]⟩ (Tx.dgs cl.length) R4 h3 (mem_pre (by decide) (fun b hb => by have := (dcm_plain (cl.length : Int) b (by rw [dcm_nat]; exact hb)).1; exact this)) hTz w hB)
  generalize hp4 : p3 + (Tx.byt ⟨#[80, 79, 73, 78, 84, 83, 32]⟩ ++ Tx.dgs cl.length).length + 1 = p4 at *
  rw [← hR4] at h4
  have HCR := Lib.hid (fun w hB => corners_any P p4 T cl hl64 hval.allin R5 h4 (by rw [← hR5]; exact isPrefixOf_append _ _) hTz w hB)
  have h5 : (Tx.byt T).drop (p4 + (Tx.flat10 (cl.map Tx.rowP)).length) = R5 := by
    have h := congrArg (List.drop (Tx.flat10 (cl.map Tx.rowP)).length) h4
    rw [List.drop_drop, List.drop_left'] at h
    · exact h
    · rfl
  generalize hp5 : p4 + (Tx.flat10 (cl.map Tx.rowP)).length = p5 at *
  rw [hR5] at hT5
  obtain ⟨hfs, hp5l⟩ := head_str T FR R5 p5 hT5 h5 (by rw [← hR5]; simp)
  rw [← hR5] at h5
  have h6 := drop_next h5
  have h6l := drop_lt h5
  have HA5 := Lib.hid (fun w hB => after_any P p5 T ⟨#[83, 85, 77, 32]⟩ (Tx.hex4 (Tx.sumN FR)) [] h5 (mem_pre (by decide) (hex_plain _ (by rw [hFR] at hsn; omega))) hTz w hB)
  generalize hp6 : p5 + (Tx.byt ⟨#[83, 85, 77, 32]⟩ ++ Tx.hex4 (Tx.sumN FR)).length + 1 = p6 at *
  have hp6T : p6 = T.size := by
    have := congrArg List.length h6
    rw [List.length_drop, List.length_nil, Tx.byt_len] at this
    rw [Tx.byt_len] at h6l
    omega
  subst hp6T
  have HJ := Lib.hid (isjob_any j true hjv)
  have HU := Lib.hid (isside_any b true hsv)
  have HOF := Lib.hid (isof_any ⟨(Tx.hex4 (Tx.sumN FR)).toArray⟩ ⟨#[48, 49, 50, 51, 52, 53, 54, 55, 56, 57, 65, 66, 67, 68, 69, 70]⟩ (by rw [bsz]; show (4 : Nat) ≤ 100000; omega) true (by rw [Tx.byt_mk]; exact hex_of _ (by rw [hFR] at hsn; omega)))
  have HIT := Lib.hid (fun W hW => itoa_t (cl.length : Int) (by omega) W hW)
  rw [dcm_nat] at HIT
  have HSM := Lib.hid (fun (W : World) (hW : EnvT W) => sum_any ⟨FR.toArray⟩ (by rw [bsz, ← hFR]; omega) W (fun w' hb => (hb.cell (p := ⟨6, 15, none⟩) hW.tlt).trans hW.tz))
  rw [Tx.byt_mk] at HSM
  have h4l : (Tx.hex4 (Tx.sumN FR)).length = 4 := rfl
  rw [Tx.byt_back] at HA1
  have HN3 := Lib.hid (fun w => need_ok 3 w)
  have HN10 := Lib.hid (fun w => need_ok 10 w)
  have HN11 := Lib.hid (fun w => need_ok 11 w)
  have HCL := Lib.hid (fun W => Tryz.stringslite_Clone j W (by omega))
  have HVC := Lib.hid (And.intro hv hc)
  have HE : Hid (∀ w', Fr P w w' → EnvT w') := Lib.hid (fun w' hf => hE.below (hE0.trans (hf.below hEP hE0.size)))
  have HB0 := Lib.hid hB
  have hPlt := hB.lt
  have k5 : (0 : Int) ≤ p5 := by omega
  have k5' : (p5 : Int) ≤ T.size := by omega
  clear h0 h1 h2 h3 h4 h5 h6 h6l hp1 hp2 hp3 hp4 hp5 hR1 hR2 hR3 hR4 hR5 hT5 hT hfl hsn hval hv hc hjv hsv hE hE0 hB hFR
  generalize Tx.hex4 (Tx.sumN FR) = sm at *
  generalize Tx.dgs cl.length = dn at *
  go_enter Tryz.func46, Tryz.ntmps46
  go_wp2_with fail
  have hX0 := Blk.new w 24 #[.string ⟨#[]⟩, .int .u8 0, .slice none 0 0]
  have HX := Lib.hid hX0
  have hXP : w.heap.size ≠ P := by omega
  have HB := Lib.hid (HB0.out.alloc (.cells #[.string ⟨#[]⟩, .int .u8 0, .slice none 0 0] 24))
  have HF := Lib.hid (Fr.of (P := P) ((Below.refl w.heap.size w).alloc (Nat.le_refl _) (.cells #[.string ⟨#[]⟩, .int .u8 0, .slice none 0 0] 24)))
  clear hX0
  generalize w.alloc (.cells #[.string ⟨#[]⟩, .int .u8 0, .slice none 0 0] 24) = W at *
  refine (HL.out _ HB.out).mono ?_
  rintro e W1 ⟨rfl, hb, hf⟩
  replace HX := Lib.hid (hf.blk HX.out hXP)
  replace HF := Lib.hid (HF.out.trans hf)
  replace HB := Lib.hid hb
  clear hb hf
  go_wp2_with fail
  refine (HN3.out _).mono ?_
  rintro e W9 ⟨rfl, hw⟩
  replace hw := hw.symm
  subst hw
  go_wp2_with fail
  refine (HA1.out _ HB.out).mono ?_
  rintro e W2 ⟨rfl, hb, hf⟩
  replace HX := Lib.hid (hf.blk HX.out hXP)
  replace HF := Lib.hid (HF.out.trans hf)
  replace HB := Lib.hid hb
  clear hb hf
  go_wp2_with fail
  refine (HJ.out _).mono ?_
  rintro e W9 ⟨rfl, hw⟩
  replace hw := hw.symm
  subst hw
  go_wp2_with fail
  refine (HN3.out _).mono ?_
  rintro e W9 ⟨rfl, hw⟩
  replace hw := hw.symm
  subst hw
  go_wp2_with fail
  refine (HA2.out _ HB.out).mono ?_
  rintro e W3 ⟨rfl, hb, hf⟩
  replace HX := Lib.hid (hf.blk HX.out hXP)
  replace HF := Lib.hid (HF.out.trans hf)
  replace HB := Lib.hid hb
  clear hb hf
  go_wp2_with fail
  refine (HU.out _).mono ?_
  rintro e W9 ⟨rfl, hw⟩
  replace hw := hw.symm
  subst hw
  go_wp2_with fail
  refine (HN3.out _).mono ?_
  rintro e W9 ⟨rfl, hw⟩
  replace hw := hw.symm
  subst hw
  go_wp2_with fail
  refine (HA3.out _ HB.out).mono ?_
  rintro e W4 ⟨rfl, hb, hf⟩
  replace HX := Lib.hid (hf.blk HX.out hXP)
  replace HF := Lib.hid (HF.out.trans hf)
  replace HB := Lib.hid hb
  clear hb hf
  go_wp2_with fail
  refine (HCR.out _ HB.out).mono ?_
  rintro e W5 ⟨v, rfl, ho, hb, hf⟩
  have HO := Lib.hid (ho.mono HF.out.size)
  replace HX := Lib.hid (hf.blk HX.out hXP)
  replace HF := Lib.hid (HF.out.trans hf)
  replace HB := Lib.hid hb
  obtain ⟨A, c, rfl, _, hcap⟩ := pts_cap HO.out
  clear hb hf ho
  go_wp2_with fail
  refine (HIT.out _ (HE.out _ HF.out)).mono ?_
  rintro e W6 ⟨rfl, hb⟩
  replace HX := Lib.hid (HX.out.below hb HX.out.lt)
  replace HO := Lib.hid (keep_own HO.out hb)
  replace HB := Lib.hid (HB.out.below hb HB.out.lt)
  replace HF := Lib.hid (HF.out.trans (Fr.of hb))
  clear hb
  go_wp2_with fail
  refine (HN3.out _).mono ?_
  rintro e W9 ⟨rfl, hw⟩
  replace hw := hw.symm
  subst hw
  go_wp2_with fail
  have q0 := fun s : Ext W6 => s.cell (p := ⟨P, 0, none⟩) (HB.out.cell 0)
  have q1 := fun s : Ext W6 => s.cell (p := ⟨P, 1, none⟩) (HB.out.cell 1)
  refine wp_region_ext (by kernel_rfl) (by kernel_rfl) ?_
  repeat (go_big_quiet_step (fail))
  refine wpQuiet_nil ?_
  rintro _ ⟨s, rfl⟩
  replace HX := Lib.hid (HX.out.below s.h HX.out.lt)
  replace HO := Lib.hid (keep_own HO.out s.h)
  replace HB := Lib.hid (HB.out.below s.h HB.out.lt)
  replace HF := Lib.hid (HF.out.trans (Fr.of s.h))
  clear q0 q1
  generalize s.w = W6' at *
  clear s
  go_wp2_with fail
  refine (HA5.out _ HB.out).mono ?_
  rintro e W7 ⟨rfl, hb, hf⟩
  replace HX := Lib.hid (hf.blk HX.out hXP)
  replace HO := Lib.hid (hf.own HO.out (fun e => by have := (HO.out.lt P e).1; omega))
  replace HF := Lib.hid (HF.out.trans hf)
  replace HB := Lib.hid hb
  clear hb hf
  go_wp2_with fail
  refine (HOF.out _).mono ?_
  rintro e W9 ⟨rfl, hw⟩
  replace hw := hw.symm
  subst hw
  go_wp2_with fail
  refine (HN3.out _).mono ?_
  rintro e W9 ⟨rfl, hw⟩
  replace hw := hw.symm
  subst hw
  go_wp2_with fail
  have HN3' : Hid (∀ W : World, Calls Tryz.prog 64 #[.bool true, .int .i64 3] W fun e w' => e = .returned (.tuple #[]) ∧ Below W.heap.size W w') := Lib.hid (fun W => (need_ok 3 W).mono (by rintro e w' ⟨rfl, rfl⟩; exact ⟨rfl, Below.refl _ _⟩))
  have q0 := fun s : Ext W7 => s.cell (p := ⟨P, 0, none⟩) (HB.out.cell 0)
  have q1 := fun s : Ext W7 => s.cell (p := ⟨P, 1, none⟩) (HB.out.cell 1)
  refine wp_region_ext (by kernel_rfl) (by kernel_rfl) ?_
  repeat (go_big_quiet_step (first | (go_at_call 64; refine calls_ext (HN3'.out _))))
  refine wpQuiet_nil ?_
  rintro _ ⟨s, rfl⟩
  replace HX := Lib.hid (HX.out.below s.h HX.out.lt)
  replace HO := Lib.hid (keep_own HO.out s.h)
  replace HB := Lib.hid (HB.out.below s.h HB.out.lt)
  replace HF := Lib.hid (HF.out.trans (Fr.of s.h))
  clear q0 q1
  generalize s.w = W7' at *
  clear s
  go_wp2_with fail
  refine (HSM.out _ (HE.out _ HF.out)).mono ?_
  rintro e W8 ⟨rfl, hb⟩
  replace HX := Lib.hid (HX.out.below hb HX.out.lt)
  replace HO := Lib.hid (keep_own HO.out hb)
  replace HB := Lib.hid (HB.out.below hb HB.out.lt)
  replace HF := Lib.hid (HF.out.trans (Fr.of hb))
  clear hb
  go_wp2_with fail
  refine (HN11.out _).mono ?_
  rintro e W9 ⟨rfl, hw⟩
  replace hw := hw.symm
  subst hw
  go_wp2_with fail
  obtain ⟨_, _, hee, hPts, _⟩ := pts_cap HO.out
  cases hee
  refine (dvalid_b A cl c _ hPts true HVC.out.1).mono ?_
  rintro e W10 ⟨rfl, hb⟩
  replace HX := Lib.hid (HX.out.below hb HX.out.lt)
  replace HO := Lib.hid (keep_own HO.out hb)
  replace HB := Lib.hid (HB.out.below hb HB.out.lt)
  replace HF := Lib.hid (HF.out.trans (Fr.of hb))
  clear hb
  go_wp2_with fail
  clear hPts
  obtain ⟨_, _, hee, hPts, _⟩ := pts_cap HO.out
  cases hee
  refine (dcanon_p A cl c (by omega) hl64 hcap _ hPts).mono ?_
  rintro e W11 ⟨v2, rfl, ho2, hb⟩
  replace HX := Lib.hid (HX.out.below hb HX.out.lt)
  replace HO := Lib.hid (keep_own HO.out hb)
  replace HB := Lib.hid (HB.out.below hb HB.out.lt)
  replace HF := Lib.hid (HF.out.trans (Fr.of hb))
  clear hb hPts
  obtain ⟨A2, c2, rfl, hPts2, _⟩ := pts_cap ho2
  obtain ⟨_, _, hee, hPts, _⟩ := pts_cap HO.out
  cases hee
  have HEQ := Lib.hid (dequal_any A A2 cl (Geo.canon cl) c c2 W11 hPts hPts2 (by omega))
  rw [HVC.out.2, eqB_self] at HEQ
  rw [HVC.out.2]
  clear ho2 hPts hPts2
  go_wp2_with fail
  refine (HEQ.out).mono ?_
  rintro e W12 ⟨rfl, hb⟩
  replace HX := Lib.hid (HX.out.below hb HX.out.lt)
  replace HO := Lib.hid (keep_own HO.out hb)
  replace HB := Lib.hid (HB.out.below hb HB.out.lt)
  replace HF := Lib.hid (HF.out.trans (Fr.of hb))
  clear hb
  go_wp2_with fail
  refine (HN10.out _).mono ?_
  rintro e W9 ⟨rfl, hw⟩
  replace hw := hw.symm
  subst hw
  go_wp2_with fail
  have HCLO := Lib.hid (clone_any j (by omega))
  have k0 : (0 : Int) < 1 := by omega
  go_region_with (go_at_call 69; refine (HCLO.out _).mono ?_; rintro e w13 ⟨rfl, hb13⟩; have bX := (HX.out.drew).below hb13 HX.out.lt; have y0 := bX.cell 0; have y1 := bX.cell 1; have y2 := bX.cell 2; have z0 := bX.frozen 0; have z1 := bX.frozen 1; have z2 := bX.frozen 2; have HX13 := Lib.hid bX; have HF13 := Lib.hid (HF.out.trans ((Fr.of (Below.refl _ _).drew).trans (Fr.of hb13))); have HO13 := Lib.hid (keep_own HO.out.drew hb13); clear hb13 bX)
  all_goals
    change Exit.then _ _ Exit.normal _ (World.setCell (World.setCell (World.setCell w13 ⟨w.heap.size, 0, none⟩ (.string j)) ⟨w.heap.size, 1, none⟩ (.int .u8 b.toNat)) ⟨w.heap.size, 2, none⟩ (.slice A cl.length c))
    have hx1 := HX13.out.set_ 0 (.string j)
    have hx2 := hx1.set_ 1 (.int .u8 b.toNat)
    have hx3 := hx2.set_ 2 (.slice A cl.length c)
    have ho1 := ownsRow_setCell_other HO13.out (a := ⟨w.heap.size, 0, none⟩) (own_ne_blk HO13.out HX13.out (by decide)) (.string j)
    have ho2 := ownsRow_setCell_other ho1 (a := ⟨w.heap.size, 1, none⟩) (own_ne_blk ho1 hx1 (by decide)) (.int .u8 b.toNat)
    have ho3 := ownsRow_setCell_other ho2 (a := ⟨w.heap.size, 2, none⟩) (own_ne_blk ho2 hx2 (by decide)) (.slice A cl.length c)
    have hf3 := ((HF13.out.far (g := w.heap.size) (Nat.le_refl _) 0 (.string j)).far (g := w.heap.size) (Nat.le_refl _) 1 (.int .u8 b.toNat)).far (g := w.heap.size) (Nat.le_refl _) 2 (.slice A cl.length c)
    have r0 := hx3.cell 0
    have r1 := hx3.cell 1
    have r2 := hx3.cell 2
    have HOF3 := Lib.hid (And.intro ho3 hf3)
    clear hx1 hx2 hx3 ho1 ho2 ho3 hf3 y0 y1 y2 z0 z1 z2 HX13 HF13 HO13
    generalize (World.setCell (World.setCell (World.setCell w13 ⟨w.heap.size, 0, none⟩ (.string j)) ⟨w.heap.size, 1, none⟩ (.int .u8 b.toNat)) ⟨w.heap.size, 2, none⟩ (.slice A cl.length c)) = WF at *
    go_wp2_with fail
    refine bodyPost_ret (v := .agg #[.string j, .int .u8 b.toNat, .slice A cl.length c]) (by simp [results, Tryz.results46, go_sem, r0, r1, r2]) rfl ⟨_, rfl, HOF3.out.1, HOF3.out.2⟩
end Go.Proofs.YthabpgclnbmnpaaGreatDoor
