import Derived.Test.YticjhkfidgkecaaGreatDoorB1
import Derived.Test.YticjhkfidgkecaaGreatDoorP3
import Derived.Lib.AppendIntMem
import Derived.Lib.SmallJoins
namespace Go.Proofs.YticjhkfidgkecaaGreatDoor
open Go.RowKit Pl

theorem g_pow : Tryz.prog.globalNamed "internal/strconv.uint64pow10" = some 2 := by kernel_rfl
theorem g_syn : Tryz.prog.globalNamed "strconv.ErrSyntax" = some 4 := by kernel_rfl
theorem g_rng : Tryz.prog.globalNamed "strconv.ErrRange" = some 5 := by kernel_rfl
theorem var_fr {w w' : World} {rb g : Nat} {name : String} {cs : Array Value} (hg : Tryz.prog.globalNamed name = some g) (h : w.var? Tryz.prog name = some cs) (hf : Fr rb w w') (hr : g ≠ rb) : w'.var? Tryz.prog name = some cs := by
  unfold World.var? at h ⊢
  rw [hg] at h ⊢
  simp only [Option.bind_some] at h ⊢
  have hl : g < w.heap.size := by
    rcases Nat.lt_or_ge g w.heap.size with k | k
    · exact k
    · rw [Array.getElem?_eq_none k] at h; cases h
  rw [hf.block g hl hr]
  exact h
/-- what of the program's own the reader needs -/
structure Env (w : World) : Prop where
  own : Own w
  tab : Lib.TabIs Tryz.prog w "internal/strconv.uint64pow10" .u64 Lib.pow10Tab
  syn : ∃ t p, w.var? Tryz.prog "strconv.ErrSyntax" = some #[.iface t p]
  rng : ∃ t p, w.var? Tryz.prog "strconv.ErrRange" = some #[.iface t p]
theorem Env.fr {w w' : World} {rb : Nat} (h : Env w) (hf : Fr rb w w') (hr : 8 ≤ rb) : Env w' := by
  obtain ⟨t, p, hs⟩ := h.syn
  obtain ⟨t', p', hr'⟩ := h.rng
  exact ⟨h.own.fr hf (by omega), var_fr g_pow h.tab hf (by omega), ⟨t, p, var_fr g_syn hs hf (by omega)⟩, ⟨t', p', var_fr g_rng hr' hf (by omega)⟩⟩
theorem Env.below {w w' : World} (h : Env w) (hb : Below w.heap.size w w') : Env w' := by
  have hl : 8 ≤ w.heap.size + 8 := by omega
  exact h.fr (rb := w.heap.size + 8) (Fr.of hb) hl
theorem St.fr2 {w w' : World} {rb : Nat} {s : List UInt8} {f : Bool} (h : St w rb s f) (hb : Below w.heap.size w w') : St w' rb s f := h.below hb

theorem tens_ascii : ∀ (j : Nat) b, (⟨tens.toArray⟩ : ByteArray).data.toList[j]? = some b → b.toNat < 128 := by
  intro j b h
  have hm := List.mem_of_getElem? h
  have key : ∀ b, b ∈ tens → b.toNat < 128 := by decide
  exact key b hm
theorem str_ne {a b : List UInt8} (h : a ≠ b) : ¬ (⟨a.toArray⟩ : ByteArray) = ⟨b.toArray⟩ := by
  intro e
  apply h
  have := congrArg (fun x : ByteArray => x.data.toList) e
  simpa using this
/-- what the reader does before it asks for the number: the digits go, and are kept -/
theorem size_mk (l : List UInt8) : (⟨l.toArray⟩ : ByteArray).size = l.length := by simp [ByteArray.size]
set_option maxRecDepth 100000 in
set_option maxHeartbeats 1000000 in
theorem number_yes (rb : Nat) (s : List UInt8) (f : Bool) (w : World) (h : St w rb s f) (hE : Env w) (hrb : 8 ≤ rb) (hl : s.length ≤ 1000) (ho : OkNum (digs s)) :
    Calls Tryz.prog 133 #[rp rb] w fun e w' => e = .returned (.int .i64 (val (digs s))) ∧ St w' rb (s.drop (digs s).length) f ∧ Fr rb w w' := by
  have HE := Lib.hid hE
  have HS := Lib.hid h
  have c0 := h.c0
  have hv := dec_val (digs_all s) ho
  have hat := atoi_digs (digs_all s) ho
  have hit := (itoa_dec (val (digs s)) (by omega) (by omega)).trans hv.1
  have hle : (val (digs s) : Int) ≤ 999 := by omega
  have h0 : (0 : Int) ≤ val (digs s) := by omega
  have hdl := digs_len s
  have C1 := Tryz.strings_TrimLeft ⟨s.toArray⟩ ⟨tens.toArray⟩ w (by decide) tens_ascii
  simp only [trimLeft_digs] at C1
  clear h hE hv ho
  go_enter Tryz.func133, Tryz.ntmps133
  go_wp2_with fail
  refine C1.mono ?_
  rintro e w1 ⟨rfl, hb1⟩
  clear C1 c0
  have h1 := HS.out.below hb1
  have HE1 := Lib.hid (HE.out.below hb1)
  have HF1 : Hid (Fr rb w w1) := Lib.hid (Fr.of hb1)
  have c1 := h1.c0
  have z1 := Blk.frozen h1 0
  have C2 := Tryz.strings_TrimSuffix ⟨s.toArray⟩ ⟨(s.drop (digs s).length).toArray⟩ w1 (by rw [size_mk]; omega)
  simp only [trimSuffix_digs] at C2
  have h2 := h1.set0 (s.drop (digs s).length)
  have HF2 : Hid (Fr rb w (w1.setCell ⟨rb, 0, none⟩ (str (s.drop (digs s).length)))) := Lib.hid (HF1.out.trans (Fr.set rb 0 w1 _))
  have HE2 := Lib.hid (HE1.out.fr (Fr.set rb 0 w1 (str (s.drop (digs s).length))) hrb)
  have H2 := Lib.hid h2
  clear hb1 h1 h2
  go_wp2_with fail
  refine C2.mono ?_
  rintro e w2 ⟨rfl, rfl⟩
  clear C2
  go_wp2_with fail
  refine (Tryz.strconv_Atoi_ok ⟨(digs s).toArray⟩ (by rw [size_mk]; omega) _ hat _).mono ?_
  rintro e w3 ⟨rfl, hw3⟩
  have hb3 : Below (w2.setCell ⟨rb, 0, none⟩ (str (s.drop (digs s).length))).heap.size (w2.setCell ⟨rb, 0, none⟩ (str (s.drop (digs s).length))) w3 := by
    rcases hw3 with rfl | ⟨t, rfl⟩
    · exact Below.refl _ _
    · exact Joins.below_bytesWorld _ _ _ _ (Nat.le_refl _)
  have H3 := Lib.hid (H2.out.below hb3)
  have HE3 := Lib.hid (HE2.out.below hb3)
  have HF3 : Hid (Fr rb w w3) := Lib.hid (HF2.out.trans (Fr.of hb3))
  clear hw3 hb3 c1 z1 H2 HE2 HF2 HF1 HE1
  have C4 := Tryz.strconv_Itoa (val (digs s)) (by omega) (by omega) w3 HE3.out.tab
  rw [hit] at C4
  have HC4 := Lib.hid C4
  clear C4 hat hit
  have g1 : ¬ (999 : Int) < val (digs s) := by omega
  go_wp2_with fail
  refine HC4.out.mono ?_
  rintro e w4 ⟨rfl, k, os, rfl⟩
  have hb4 := Lib.below_grow w3.heap.size w3 (Nat.le_refl _) k os
  have H4 := Lib.hid (H3.out.below hb4)
  have HF4 : Hid (Fr rb w _) := Lib.hid (HF3.out.trans (Fr.of hb4))
  clear hb4
  go_wp2_with fail
  go_ret
  exact ⟨rfl, H4.out, HF4.out⟩

set_option maxRecDepth 100000 in
set_option maxHeartbeats 2000000 in
theorem number_no (rb : Nat) (s : List UInt8) (f : Bool) (w : World) (h : St w rb s f) (hE : Env w) (hrb : 8 ≤ rb) (hl : s.length ≤ 1000) (ho : ¬ OkNum (digs s)) :
    Calls Tryz.prog 133 #[rp rb] w fun e w' => ∃ n, e = .returned (.int .i64 n) ∧ St w' rb [] true ∧ Fr rb w w' := by
  have HE := Lib.hid hE
  have HS := Lib.hid h
  have c0 := h.c0
  have HA := Lib.hid (atoi_bad (digs_all s) ho)
  have hdl := digs_len s
  have C1 := Tryz.strings_TrimLeft ⟨s.toArray⟩ ⟨tens.toArray⟩ w (by decide) tens_ascii
  simp only [trimLeft_digs] at C1
  clear h hE ho
  go_enter Tryz.func133, Tryz.ntmps133
  go_wp2_with fail
  refine C1.mono ?_
  rintro e w1 ⟨rfl, hb1⟩
  clear C1 c0
  have h1 := HS.out.below hb1
  have HE1 := Lib.hid (HE.out.below hb1)
  have HF1 : Hid (Fr rb w w1) := Lib.hid (Fr.of hb1)
  have c1 := h1.c0
  have z1 := Blk.frozen h1 0
  have C2 := Tryz.strings_TrimSuffix ⟨s.toArray⟩ ⟨(s.drop (digs s).length).toArray⟩ w1 (by rw [size_mk]; omega)
  simp only [trimSuffix_digs] at C2
  have h2 := h1.set0 (s.drop (digs s).length)
  have HF2 : Hid (Fr rb w (w1.setCell ⟨rb, 0, none⟩ (str (s.drop (digs s).length)))) := Lib.hid (HF1.out.trans (Fr.set rb 0 w1 _))
  have HE2 := Lib.hid (HE1.out.fr (Fr.set rb 0 w1 (str (s.drop (digs s).length))) hrb)
  have H2 := Lib.hid h2
  clear hb1 h1 h2
  go_wp2_with fail
  refine C2.mono ?_
  rintro e w2 ⟨rfl, rfl⟩
  clear C2
  go_wp2_with fail
  generalize hW : w2.setCell ⟨rb, 0, none⟩ (str (s.drop (digs s).length)) = W at *
  clear hW c1 z1 HF1 HE1 HE HS
  have hlim : (⟨(digs s).toArray⟩ : ByteArray).size ≤ 281474976710656 := by rw [size_mk]; omega
  rcases HA.out with hs | hr | ⟨v, hok, ⟨hv0, hv1⟩, hbad⟩
  · obtain ⟨t, p, hvar⟩ := HE2.out.syn
    refine (Tryz.strconv_Atoi_syntax_var ⟨(digs s).toArray⟩ hlim hs t p _ hvar).mono ?_
    rintro e w3 ⟨N, rfl, -, -, hb3⟩
    have H3 := H2.out.below hb3
    have HF3 := Lib.hid (HF2.out.trans (Fr.of hb3))
    have HC := Lib.hid (fail_any rb _ f w3 H3)
    clear hb3 H3 hvar hs HA
    go_wp2_with fail
    refine HC.out.mono ?_
    rintro e w4 ⟨rfl, h4, hf4⟩
    have H4 := Lib.hid h4
    have HF4 := Lib.hid (HF3.out.trans hf4)
    clear h4 hf4
    go_wp2_with fail
    go_ret
    exact ⟨_, rfl, H4.out, HF4.out⟩
  · obtain ⟨t, p, hvar⟩ := HE2.out.rng
    refine (Tryz.strconv_Atoi_range_var ⟨(digs s).toArray⟩ hlim hr t p _ hvar).mono ?_
    rintro e w3 ⟨N, rfl, -, -, hb3⟩
    have H3 := H2.out.below hb3
    have HF3 := Lib.hid (HF2.out.trans (Fr.of hb3))
    have HC := Lib.hid (fail_any rb _ f w3 H3)
    clear hb3 H3 hvar hr HA
    go_wp2_with fail
    refine HC.out.mono ?_
    rintro e w4 ⟨rfl, h4, hf4⟩
    have H4 := Lib.hid h4
    have HF4 := Lib.hid (HF3.out.trans hf4)
    clear h4 hf4
    go_wp2_with fail
    go_ret
    exact ⟨_, rfl, H4.out, HF4.out⟩
  · refine (Tryz.strconv_Atoi_ok ⟨(digs s).toArray⟩ (by rw [size_mk]; omega) _ hok _).mono ?_
    rintro e w3 ⟨rfl, hw3⟩
    have hb3 : Below W.heap.size W w3 := by
      rcases hw3 with rfl | ⟨t, rfl⟩
      · exact Below.refl _ _
      · exact Joins.below_bytesWorld _ _ _ _ (Nat.le_refl _)
    have H3 := Lib.hid (H2.out.below hb3)
    have HE3 := Lib.hid (HE2.out.below hb3)
    have HF3 : Hid (Fr rb w w3) := Lib.hid (HF2.out.trans (Fr.of hb3))
    clear hw3 hb3 H2 HE2 HF2 HA hok
    rcases hbad with hb | ⟨hb, hne⟩
    · have HC := Lib.hid (fail_any rb _ f w3 H3.out)
      go_wp2_with fail
      refine HC.out.mono ?_
      rintro e w4 ⟨rfl, h4, hf4⟩
      have H4 := Lib.hid h4
      have HF4 := Lib.hid (HF3.out.trans hf4)
      clear h4 hf4
      go_wp2_with fail
      go_ret
      exact ⟨_, rfl, H4.out, HF4.out⟩
    · have HC4 := Lib.hid (Tryz.strconv_Itoa v hv0 hv1 w3 HE3.out.tab)
      have g1 : ¬ (999 : Int) < v := by omega
      have g2 : (Lib.itoa v == digs s) = false := by simpa using hne
      have g3 := str_ne hne
      clear hne
      go_wp2_with fail
      refine HC4.out.mono ?_
      rintro e w4 ⟨rfl, k, os, rfl⟩
      have hb4 := Lib.below_grow w3.heap.size w3 (Nat.le_refl _) k os
      have HC5 := Lib.hid (fail_any rb _ f _ (H3.out.below hb4))
      have HF4 : Hid (Fr rb w _) := Lib.hid (HF3.out.trans (Fr.of hb4))
      clear hb4
      go_wp2_with fail
      refine HC5.out.mono ?_
      rintro e w5 ⟨rfl, h5, hf5⟩
      have H5 := Lib.hid h5
      have HF5 := Lib.hid (HF4.out.trans hf5)
      clear h5 hf5
      go_wp2_with fail
      go_ret
      exact ⟨_, rfl, H5.out, HF5.out⟩
end Go.Proofs.YticjhkfidgkecaaGreatDoor
