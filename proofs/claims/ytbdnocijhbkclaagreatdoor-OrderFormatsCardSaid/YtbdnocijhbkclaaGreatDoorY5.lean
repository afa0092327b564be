/- The document's Format. -/
import Derived.Test.YtbdnocijhbkclaaGreatDoorPA
import Derived.Test.YtbdnocijhbkclaaGreatDoorF2
import Derived.Test.YtbdnocijhbkclaaGreatDoorYA
import Derived.Laws.Concat
namespace Go.Proofs.YtbdnocijhbkclaaGreatDoor
open Go.RowKit Go.Shelf

theorem bsz (l : List UInt8) : (⟨l.toArray⟩ : ByteArray).size = l.length := by simp [ByteArray.size]
set_option maxRecDepth 100000 in
set_option maxHeartbeats 4000000 in
theorem rformat_c (f : Pl.Fm) (hf : Pl.Vf f) (w : World) (hR : Rows lnL 4 w f.a f.ls)
    (HV : ∀ w', Below w.heap.size w w' → Calls Tryz.prog 16 #[.agg (fmA f)] w' fun e w'' => e = .returned (.bool true) ∧ Below w'.heap.size w' w'') :
    Calls Tryz.prog 8 #[.agg (fmA f)] w fun e w' => e = .returned (.tuple #[.string ⟨(Pl.txt f).toArray⟩, .int .i64 0]) ∧ Below w.heap.size w w' := by
  obtain ⟨TX, hTX⟩ : ∃ TX, Pl.txt f = TX := ⟨_, rfl⟩
  rw [hTX]
  have HT : Hid (TX.length ≤ 1277) := Lib.hid (by rw [← hTX]; exact Pl.txt_len hf)
  have hB := (Below.refl w.heap.size w).alloc (Nat.le_refl _) (.cells (fmA f) 24)
  have bF := Blk.new w 24 (fmA f)
  have HV1 := Lib.hid (HV _ hB)
  have HFB := Lib.hid bF
  have hFl := bF.lt
  have hr0 := bF.range
  have HD := Lib.hid (rdigits_any f.d.toNat (by have := hf.d1; omega))
  rw [show ((f.d.toNat : Nat) : Int) = f.d by have := hf.d0; omega] at HD
  have hcu : f.cus.size ≤ 12 := by have := hf.cus; unfold Pl.wdB Pl.wd Pl.inB at this; simp at this; have h1 := this.1.2; omega
  have hcr : f.cur.size = 3 := by have := hf.cur; unfold Pl.cyB Pl.cy at this; simp at this; exact this.1
  have hdl : (⟨(Pl.dgs f.d.toNat).toArray⟩ : ByteArray).size ≤ 12 := by rw [bsz]; exact Pl.dgs_len _ 12 (by decide) (by have := hf.d1; omega)
  have HE : Hid (TX = Pl.byt (⟨#[79, 82, 68, 69, 82, 32]⟩ ++ f.cus ++ ⟨#[10, 68, 65, 89, 32]⟩ ++ ⟨(Pl.dgs f.d.toNat).toArray⟩ ++ ⟨#[10, 73, 78, 32]⟩ ++ f.cur ++ ⟨#[10]⟩) ++ f.ls.flatMap Pl.lnT) := Lib.hid (by
    rw [← hTX]
    unfold Pl.txt Pl.byt Pl.ordW Pl.dayW Pl.inW
    simp [ByteArray.data_append])
  generalize hdd : (⟨(Pl.dgs f.d.toNat).toArray⟩ : ByteArray) = dd at *
  have HSZ := Lib.hid (show f.cus.size + dd.size + f.cur.size ≤ 30 by omega)
  have k1 : ¬ 9223372036854775807 < 6 + f.cus.size := by omega
  have k2 : ¬ 9223372036854775807 < 6 + f.cus.size + 5 := by omega
  have k3 : ¬ 9223372036854775807 < 6 + f.cus.size + 5 + dd.size := by omega
  have k4 : ¬ 9223372036854775807 < 6 + f.cus.size + 5 + dd.size + 4 := by omega
  have k5 : ¬ 9223372036854775807 < 6 + f.cus.size + 5 + dd.size + 4 + f.cur.size := by omega
  have k6 : ¬ 9223372036854775807 < 6 + f.cus.size + 5 + dd.size + 4 + f.cur.size + 1 := by omega
  have HF := Lib.hid hf
  have hn40 := hf.n1
  have HR := Lib.hid hR
  have HB := Lib.hid hB
  clear hTX hf hR HV hdd hcu hcr hdl bF hB
  generalize hWo : w.alloc (.cells (fmA f) 24) = W at *
  go_enter Tryz.func8, Tryz.ntmps8
  go_wp2_with (refine ldm_fm hr0 rfl _ rfl rfl ?_)
  refine HV1.out.mono ?_
  rintro e w2 ⟨rfl, hb2⟩
  have HB2 := Lib.hid (HB.out.trans (hb2.mono HB.out.size))
  have bF2 := HFB.out.below hb2 hFl
  have hFl2 := bF2.lt
  have HFB2 := Lib.hid bF2
  have f0 := fun s : Ext w2 => s.cell (p := ⟨w.heap.size, 0, none⟩) (bF2.cell 0)
  have f1 := fun s : Ext w2 => s.cell (p := ⟨w.heap.size, 1, none⟩) (bF2.cell 1)
  have f2 := fun s : Ext w2 => s.cell (p := ⟨w.heap.size, 2, none⟩) (bF2.cell 2)
  clear bF2 hb2 hFl hr0 HV1 HFB
  go_wp2_with fail
  refine wp_region_ext (by kernel_rfl) (by kernel_rfl) ?_
  repeat (go_big_quiet_step (first | (go_at_call 17; refine calls_ext (HD.out _))))
  refine wpQuiet_nil ?_
  rintro _ ⟨s, rfl⟩
  have HB3 := Lib.hid (HB2.out.trans (s.h.mono HB2.out.size))
  have bF3 := HFB2.out.below s.h hFl2
  have HFB3 := Lib.hid bF3
  have hFl3 := bF3.lt
  have p3 : s.w.cell? ⟨w.heap.size, 3, none⟩ = some (.slice f.a f.ls.length f.k) := bF3.cell 3
  clear f0 f1 f2 HFB2 bF3 k1 k2 k3 k4 k5 k6 HD
  generalize s.w = w3 at *
  clear s
  have HS0 : Hid (Pl.byt (⟨#[79, 82, 68, 69, 82, 32]⟩ ++ f.cus ++ ⟨#[10, 68, 65, 89, 32]⟩ ++ dd ++ ⟨#[10, 73, 78, 32]⟩ ++ f.cur ++ ⟨#[10]⟩) ++ f.ls.flatMap Pl.lnT = TX ∧ (⟨#[79, 82, 68, 69, 82, 32]⟩ ++ f.cus ++ ⟨#[10, 68, 65, 89, 32]⟩ ++ dd ++ ⟨#[10, 73, 78, 32]⟩ ++ f.cur ++ ⟨#[10]⟩ : ByteArray).size ≤ 50) := Lib.hid ⟨HE.out.symm, by simp [ByteArray.size_append, ByteArray.size_mk']; have := HSZ.out; omega⟩
  clear HE HSZ
  generalize (⟨#[79, 82, 68, 69, 82, 32]⟩ ++ f.cus ++ ⟨#[10, 68, 65, 89, 32]⟩ ++ dd ++ ⟨#[10, 73, 78, 32]⟩ ++ f.cur ++ ⟨#[10]⟩ : ByteArray) = S0 at *
  have HRW := Lib.hid (HR.out.below HB3.out)
  go_wp2_with fail
  go_loopw [4, 5, 6] (fun sv i _ wr => ∃ (k : Nat) (S : ByteArray), k ≤ f.ls.length ∧ i = .int .i64 k ∧ sv = .string S ∧ Hid (Pl.byt S = Pl.byt S0 ++ (f.ls.take k).flatMap Pl.lnT) ∧ Hid (Below w3.heap.size w3 wr)) (fun _ i _ _ => f.ls.length - (intOf i).toNat)
  case atStart => exact ⟨0, S0, Nat.zero_le _, rfl, rfl, Lib.hid (by simp), Lib.hid (Below.refl _ _)⟩
  case round =>
    obtain ⟨k, S, hk, rfl, rfl, HS, HW⟩ := hrel
    obtain ⟨wo, rfl⟩ : ∃ wo, wo = wr := ⟨_, rfl⟩
    have p3 := (HW.out.cell (p := ⟨w.heap.size, 3, none⟩) hFl3).trans p3
    by_cases hlt : k < f.ls.length
    · have hltI : (k : Int) < (f.ls.length : Int) := by omega
      have HLT := Lib.hid hlt
      obtain ⟨bx, ox, hax, hbx, hcx⟩ := HRW.out.open (by omega)
      have hr := row_at hbx hcx HW.out hlt
      have HVL := Lib.hid (HF.out.ls _ (List.getElem_mem hlt))
      have HTK : Hid ((f.ls.take (k + 1)).flatMap Pl.lnT = (f.ls.take k).flatMap Pl.lnT ++ Pl.lnT f.ls[k]) := Lib.hid (by rw [List.take_succ_eq_append_getElem hlt, List.flatMap_append]; simp; rfl)
      have HSL : Hid (S.size ≤ 2000) := Lib.hid (by
        have h1 := congrArg List.length HS.out
        have h2 := congrArg List.length HS0.out.1
        rw [List.length_append] at h1 h2
        have h3 : (f.ls.flatMap Pl.lnT).length = ((f.ls.take k).flatMap Pl.lnT).length + ((f.ls.drop k).flatMap Pl.lnT).length := by
          rw [← List.length_append, ← List.flatMap_append, List.take_append_drop]
        have h4 : (Pl.byt S).length = S.size := rfl
        have := HT.out
        omega)
      clear hcx
      generalize f.ls[k] = x at *
      have bE := Blk.new wo 45 (lnA x)
      have HBE := Lib.hid ((Below.refl wo.heap.size wo).alloc (Nat.le_refl _) (.cells (lnA x) 45))
      have f0 := fun s : Ext (wo.alloc (.cells (lnA x) 45)) => s.cell (p := ⟨wo.heap.size, 0, none⟩) (bE.cell 0)
      have f1 := fun s : Ext (wo.alloc (.cells (lnA x) 45)) => s.cell (p := ⟨wo.heap.size, 1, none⟩) (bE.cell 1)
      have f2 := fun s : Ext (wo.alloc (.cells (lnA x) 45)) => s.cell (p := ⟨wo.heap.size, 2, none⟩) (bE.cell 2)
      have f3 := fun s : Ext (wo.alloc (.cells (lnA x) 45)) => s.cell (p := ⟨wo.heap.size, 3, none⟩) (bE.cell 3)
      have hx := HVL.out
      have HD1 := Lib.hid (rdigits_any x.col.toNat (by have := hx.c1; omega))
      have HD2 := Lib.hid (rdigits_any x.siz.toNat (by have := hx.s1; omega))
      have HD3 := Lib.hid (rdigits_any x.cnt.toNat (by have := hx.n1; omega))
      rw [show ((x.col.toNat : Nat) : Int) = x.col by have := hx.c0; omega] at HD1
      rw [show ((x.siz.toNat : Nat) : Int) = x.siz by have := hx.s0; omega] at HD2
      rw [show ((x.cnt.toNat : Nat) : Int) = x.cnt by have := hx.n0; omega] at HD3
      have hmd : x.md.size ≤ 12 := by have := hx.md; unfold Pl.wdB Pl.wd Pl.inB at this; simp at this; have h1 := this.1.2; omega
      have hd1 : (⟨(Pl.dgs x.col.toNat).toArray⟩ : ByteArray).size ≤ 12 := by rw [bsz]; exact Pl.dgs_len _ 12 (by decide) (by have := hx.c1; omega)
      have hd2 : (⟨(Pl.dgs x.siz.toNat).toArray⟩ : ByteArray).size ≤ 12 := by rw [bsz]; exact Pl.dgs_len _ 12 (by decide) (by have := hx.s1; omega)
      have hd3 : (⟨(Pl.dgs x.cnt.toNat).toArray⟩ : ByteArray).size ≤ 12 := by rw [bsz]; exact Pl.dgs_len _ 12 (by decide) (by have := hx.n1; omega)
      have HLN : Hid (Pl.byt (S ++ x.md ++ ⟨#[32]⟩ ++ ⟨(Pl.dgs x.col.toNat).toArray⟩ ++ ⟨#[32]⟩ ++ ⟨(Pl.dgs x.siz.toNat).toArray⟩ ++ ⟨#[32]⟩ ++ ⟨(Pl.dgs x.cnt.toNat).toArray⟩ ++ ⟨#[10]⟩) = Pl.byt S ++ Pl.lnT x) := Lib.hid (by
        unfold Pl.lnT Pl.byt
        simp [ByteArray.data_append])
      generalize (⟨(Pl.dgs x.col.toNat).toArray⟩ : ByteArray) = d1 at *
      generalize (⟨(Pl.dgs x.siz.toNat).toArray⟩ : ByteArray) = d2 at *
      generalize (⟨(Pl.dgs x.cnt.toNat).toArray⟩ : ByteArray) = d3 at *
      have hSL := HSL.out
      have k1 : ¬ 9223372036854775807 < S.size + x.md.size := by omega
      have k2 : ¬ 9223372036854775807 < S.size + x.md.size + 1 := by omega
      have k3 : ¬ 9223372036854775807 < S.size + x.md.size + 1 + d1.size := by omega
      have k4 : ¬ 9223372036854775807 < S.size + x.md.size + 1 + d1.size + 1 := by omega
      have k5 : ¬ 9223372036854775807 < S.size + x.md.size + 1 + d1.size + 1 + d2.size := by omega
      have k6 : ¬ 9223372036854775807 < S.size + x.md.size + 1 + d1.size + 1 + d2.size + 1 := by omega
      have k7 : ¬ 9223372036854775807 < S.size + x.md.size + 1 + d1.size + 1 + d2.size + 1 + d3.size := by omega
      have k8 : ¬ 9223372036854775807 < S.size + x.md.size + 1 + d1.size + 1 + d2.size + 1 + d3.size + 1 := by omega
      clear hx hmd hd1 hd2 hd3 hSL hlt bE
      rw [hax] at p3
      go_wp2_with (refine ldm_ln hr rfl _ rfl rfl ?_)
      generalize wo.alloc (.cells (lnA x) 45) = wa at *
      refine wp_region_ext (by kernel_rfl) (by kernel_rfl) ?_
      iterate 8 (go_big_quiet_step (first | (go_at_call 17; refine calls_ext (HD1.out _))))
      iterate 5 (go_big_quiet_step (first | (go_at_call 17; refine calls_ext (HD2.out _))))
      repeat (go_big_quiet_step (first | (go_at_call 17; refine calls_ext (HD3.out _))))
      refine wpQuiet_nil ?_
      rintro _ ⟨s, rfl⟩
      have HW2 := Lib.hid (HW.out.trans ((HBE.out.trans (s.h.mono HBE.out.size)).mono HW.out.size))
      clear f0 f1 f2 f3 k1 k2 k3 k4 k5 k6 k7 k8 hr p3 HD1 HD2 HD3
      go_wp2_with fail
      go_roundw
      case rel => exact ⟨k + 1, _, HLT.out, by have := HF.out.n1; have := HLT.out; go_num, rfl, Lib.hid (by rw [HLN.out, HS.out, HTK.out, List.append_assoc]), HW2⟩
      case measure => have := HF.out.n1; have := HLT.out; simp [intOf]; omega
    · obtain rfl : k = f.ls.length := by omega
      have HTX : Hid (S = ⟨TX.toArray⟩) := Lib.hid (by
        have h1 := HS.out
        rw [List.take_length, HS0.out.1] at h1
        rw [← h1, Pl.byt_back])
      go_wp2_with fail
      refine bodyPost_ret (v := .tuple #[.string S, .int .i64 0]) (by simp [results, Tryz.results8, go_sem]) rfl ?_
      exact ⟨by rw [HTX.out], HB3.out.trans (HW.out.mono HB3.out.size)⟩
end Go.Proofs.YtbdnocijhbkclaaGreatDoor
