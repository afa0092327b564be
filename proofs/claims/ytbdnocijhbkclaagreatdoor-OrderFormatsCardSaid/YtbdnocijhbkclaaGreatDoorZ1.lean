/- written: the text of a valid form. -/
import Derived.Test.YtbdnocijhbkclaaGreatDoorZ0
import Derived.Test.YtbdnocijhbkclaaGreatDoorYA
namespace Go.Proofs.YtbdnocijhbkclaaGreatDoor
open Go.RowKit Go.Shelf Go.Sort Go.Lib

theorem sts_len (l : List (List UInt8)) : (sts l).length = l.length := by simp [sts]
/-- the words of a row that is owned, joined -/
theorem join_own {B : Nat} {v : Value} {n : Nat} {l : List (List UInt8)} (sep : ByteArray) (W : World) (h : W.ownsRow B 9 1 v n (sts l)) (hn : n = l.length) (h0 : 0 < n) (h1 : n ≤ 100000) (hl : (Lib.join l sep.data.toList).length ≤ 100000000) :
    Calls Tryz.prog 36 #[v, .string sep] W fun e w' => e = .returned (.string ⟨(Lib.join l sep.data.toList).toArray⟩) ∧ Below W.heap.size W w' := by
  subst hn
  have hm : (l.map fun x => (⟨x.toArray⟩ : ByteArray)).map (·.data.toList) = l := by
    rw [List.map_map]
    exact (List.map_congr_left (g := id) (fun x _ => by simp)).trans (List.map_id l)
  obtain ⟨g, cap, rfl⟩ := Joins.ownsRow_form h h0
  rcases h.2 with ⟨h', _⟩ | ⟨g', cap', cur, hv, hB, hg, hc, hx, _⟩
  · cases h'
  cases hv
  have hlt : g < W.heap.size := by
    rcases Nat.lt_or_ge g W.heap.size with h | h
    · exact h
    · rw [Array.getElem?_eq_none h] at hg; cases hg
  have := Tryz.strings_Join g 0 cap (l.map fun x => (⟨x.toArray⟩ : ByteArray)) sep W (fun j x hj => by
    have hjl : j < l.length := by
      rcases Nat.lt_or_ge j l.length with h | h
      · exact h
      · rw [List.getElem?_map, List.getElem?_eq_none h] at hj; cases hj
    have hc := h.cellAt j (by omega)
    rw [Nat.zero_add, hc]
    unfold sts
    rw [List.getElem?_map] at hj ⊢
    rw [List.getElem?_eq_getElem hjl] at hj ⊢
    simp only [Option.map_some, Option.some.injEq] at hj ⊢
    rw [hj]) hlt (by rw [List.length_map]; omega) (by rw [List.length_map]; exact hc) (by rw [hm]; omega)
  rw [hm, List.length_map] at this
  exact this
theorem own_ext {W W' : World} {B : Nat} {v : Value} {n : Nat} {xs : List Value} (h : W.ownsRow B 9 1 v n xs) (hb : Below W.heap.size W W') : W'.ownsRow B 9 1 v n xs := own_keep h hb
set_option maxRecDepth 100000 in
set_option maxHeartbeats 4000000 in
theorem written_any (f : Pl.Fm) (hf : Pl.Vf f) (w : World) (hE : Env w) (hR : Rows lnL 4 w f.a f.ls) :
    Calls Tryz.prog 15 #[.agg (fmA f)] w fun e w' => e = .returned (.string ⟨(Pl.txt f).toArray⟩) ∧ Below w.heap.size w w' := by
  obtain ⟨i0, hi, hz0, hz1, hz2⟩ := info_parts info_str
  obtain ⟨TX, hTX⟩ : ∃ TX, Pl.txt f = TX := ⟨_, rfl⟩
  rw [hTX]
  have HT : Hid (TX.length ≤ 1277) := Lib.hid (by rw [← hTX]; exact Pl.txt_len hf)
  have HJR : Hid (Lib.join (Pl.rowsT f) [10] ++ [10] = TX) := Lib.hid (by rw [← hTX]; exact Pl.join_rows f)
  have hB := (Below.refl w.heap.size w).alloc (Nat.le_refl _) (.cells (fmA f) 24)
  have bF := Blk.new w 24 (fmA f)
  have hE1 := hE.below hB
  have hFl := bF.lt
  have HD := Lib.hid (fun W hW => itoa_any f.d hf.d0 (by have := hf.d1; omega) W hW)
  have hcu : f.cus.size ≤ 12 := by have := hf.cus; unfold Pl.wdB Pl.wd Pl.inB at this; simp at this; have h1 := this.1.2; omega
  have hcr : f.cur.size = 3 := by have := hf.cur; unfold Pl.cyB Pl.cy at this; simp at this; exact this.1
  have hdl : (⟨(Pl.dgs f.d.toNat).toArray⟩ : ByteArray).size ≤ 12 := by rw [bsz]; exact Pl.dgs_len _ 12 (by decide) (by have := hf.d1; omega)
  have HS3 : Hid (#[Value.string (⟨#[79, 82, 68, 69, 82, 32]⟩ ++ f.cus), .string (⟨#[68, 65, 89, 32]⟩ ++ ⟨(Pl.dgs f.d.toNat).toArray⟩), .string (⟨#[73, 78, 32]⟩ ++ f.cur)].toList = sts ((Pl.rowsT f).take 3)) := Lib.hid (by
    unfold Pl.rowsT sts Pl.ordW Pl.dayW Pl.inW Pl.byt
    simp only [List.take_succ_cons, List.take_zero, List.map_cons, List.map_nil, List.cons.injEq, Value.string.injEq, and_true]
    refine ⟨ByteArray.ext ?_, ByteArray.ext ?_, ByteArray.ext ?_⟩ <;> simp [ByteArray.data_append])
  generalize hdd : (⟨(Pl.dgs f.d.toNat).toArray⟩ : ByteArray) = dd at *
  have k1 : ¬ 9223372036854775807 < 6 + f.cus.size := by omega
  have k2 : ¬ 9223372036854775807 < 4 + dd.size := by omega
  have k3 : ¬ 9223372036854775807 < 3 + f.cur.size := by omega
  have HF := Lib.hid hf
  have hn40 := hf.n1
  have HR0 := Lib.hid hR
  have HE0 := Lib.hid hE
  have HR := Lib.hid (hR.below hB)
  have HB := Lib.hid hB
  have HE1 := Lib.hid hE1
  have HFB := Lib.hid bF
  have z0 := fun s : Ext (w.alloc (.cells (fmA f) 24)) => s.cell (p := ⟨w.heap.size, 0, none⟩) (bF.cell 0)
  have z1 := fun s : Ext (w.alloc (.cells (fmA f) 24)) => s.cell (p := ⟨w.heap.size, 1, none⟩) (bF.cell 1)
  have z2 := fun s : Ext (w.alloc (.cells (fmA f) 24)) => s.cell (p := ⟨w.heap.size, 2, none⟩) (bF.cell 2)
  clear hTX hf hR hdd hcu hcr hdl bF hB hE hE1
  go_enter Tryz.func15, Tryz.ntmps15
  go_wp2_with fail
  generalize hWo : w.alloc (.cells (fmA f) 24) = W at *
  refine wp_region_held (S := fun V9 => ∃ s : Ext W, V9 = s.w) (by kernel_rfl) ?_
  change wpAnyH _ _ _ _ _ _ _ _ (World.drew _)
  have hS : ∃ s : Ext W, (World.drew W) = s.w := ⟨⟨_, (Below.refl _ _).drew⟩, rfl⟩
  generalize World.drew W = Wd at *
  refine takeD (i := 0) (d := (some 7)) (v := ?_) rfl rfl (by kernel_rfl) (by decide +kernel) (by decide +kernel) (fun _ _ _ h => h) (Or.inl ⟨by first | kernel_rfl | rfl, ?_⟩) hS ?_
  rotate_left
  · intro w' hT; obtain ⟨s, rfl⟩ := hT; have p0 := z0 s; have p1 := z1 s; have p2 := z2 s; first | (go_simp; done) | (go_simp; with_reducible rfl)
  refine takeD (i := 1) (d := (some 8)) (v := ?_) rfl rfl (by kernel_rfl) (by decide +kernel) (by decide +kernel) (fun _ _ _ h => h) (Or.inl ⟨by first | kernel_rfl | rfl, ?_⟩) hS ?_
  rotate_left
  · intro w' hT; obtain ⟨s, rfl⟩ := hT; have p0 := z0 s; have p1 := z1 s; have p2 := z2 s; first | (go_simp; done) | (go_simp; with_reducible rfl)
  refine takeD (i := 2) (d := (some 9)) (v := ?_) rfl rfl (by kernel_rfl) (by decide +kernel) (by decide +kernel) (fun _ _ _ h => h) (Or.inl ⟨by first | kernel_rfl | rfl, ?_⟩) hS ?_
  rotate_left
  · intro w' hT; obtain ⟨s, rfl⟩ := hT; have p0 := z0 s; have p1 := z1 s; have p2 := z2 s; first | (go_simp; done) | (go_simp; with_reducible rfl)
  refine takeD (i := 3) (d := (some 10)) (v := ?_) rfl rfl (by kernel_rfl) (by decide +kernel) (by decide +kernel) (fun _ _ _ h => h) (Or.inl ⟨by first | kernel_rfl | rfl, ?_⟩) hS ?_
  rotate_left
  · intro w' hT; obtain ⟨s, rfl⟩ := hT; have p0 := z0 s; have p1 := z1 s; have p2 := z2 s; first | (go_simp; done) | (go_simp; with_reducible rfl)
  refine takeD (i := 4) (d := (some 11)) (v := ?_) rfl rfl (by kernel_rfl) (by decide +kernel) (by decide +kernel) (fun _ _ _ h => h) (Or.inl ⟨by first | kernel_rfl | rfl, ?_⟩) hS ?_
  rotate_left
  · intro w' hT; obtain ⟨s, rfl⟩ := hT; have p0 := z0 s; have p1 := z1 s; have p2 := z2 s; first | (go_simp; done) | (go_simp; with_reducible rfl)
  refine takeD (i := 7) (d := (some 14)) (v := ?_) rfl rfl (by kernel_rfl) (by decide +kernel) (by decide +kernel) (fun _ _ _ h => h) (Or.inl ⟨by first | kernel_rfl | rfl, ?_⟩) hS ?_
  rotate_left
  · intro w' hT; obtain ⟨s, rfl⟩ := hT; have p0 := z0 s; have p1 := z1 s; have p2 := z2 s; first | (go_simp; done) | (go_simp; with_reducible rfl)
  refine takeD (i := 8) (d := (some 15)) (v := ?_) rfl rfl (by kernel_rfl) (by decide +kernel) (by decide +kernel) (fun _ _ _ h => h) (Or.inl ⟨by first | kernel_rfl | rfl, ?_⟩) hS ?_
  rotate_left
  · intro w' hT; obtain ⟨s, rfl⟩ := hT; have p0 := z0 s; have p1 := z1 s; have p2 := z2 s; first | (go_simp; done) | (go_simp; with_reducible rfl)
  refine takeD (i := 9) (d := (some 16)) (v := ?_) rfl rfl (by kernel_rfl) (by decide +kernel) (by decide +kernel) (fun _ _ _ h => h) (Or.inl ⟨by first | kernel_rfl | rfl, ?_⟩) hS ?_
  rotate_left
  · intro w' hT; obtain ⟨s, rfl⟩ := hT; have p0 := z0 s; have p1 := z1 s; have p2 := z2 s; first | (go_simp; done) | (go_simp; with_reducible rfl)
  refine actNorm (fun a' ha => ?_); (try simp [go_sem] at ha); subst ha
  refine wpAnyH_all (rs := [5]) (by decide +kernel) (by simp) ?_
  intro i0 hi0
  have hi1 := List.mem_singleton.1 hi0
  clear hi0
  subst hi1
  obtain ⟨s0, rfl⟩ := hS
  refine wpOp_goE rfl (by kernel_rfl) (fun K hK => ?_)
  go_simp
  refine (HD.out s0.w (HE1.out.below s0.h)).mono ?_
  rintro e W1 ⟨rfl, hb1⟩
  have hS : ∃ s : Ext W, W1 = s.w := ⟨⟨_, s0.h.trans (hb1.mono s0.h.size)⟩, rfl⟩
  clear hb1
  refine hK _ _ ⟨hS, ?_⟩
  clear hK K
  refine takeD (i := 6) (d := (some 13)) (v := ?_) rfl rfl (by kernel_rfl) (by decide +kernel) (by decide +kernel) (fun _ _ _ h => h) (Or.inl ⟨by first | kernel_rfl | rfl, ?_⟩) hS ?_
  rotate_left
  · intro w' hT; obtain ⟨s, rfl⟩ := hT; have p0 := z0 s; have p1 := z1 s; have p2 := z2 s; first | (go_simp; done) | (go_simp; with_reducible rfl)
  refine actNorm (fun a' ha => ?_); (try simp [go_sem] at ha); subst ha
  refine wpAnyH_all (rs := [10]) (by decide +kernel) (by simp) ?_
  intro i0 hi0
  have hi1 := List.mem_singleton.1 hi0
  clear hi0
  subst hi1
  obtain ⟨s1, rfl⟩ := hS
  refine wpOp_goE rfl (by kernel_rfl) (fun K hK => ?_)
  go_simp
  have hS : ∃ s : Ext W, s1.w.alloc (.cells #[.string (⟨#[79, 82, 68, 69, 82, 32]⟩ ++ f.cus), .string (⟨#[68, 65, 89, 32]⟩ ++ dd), .string (⟨#[73, 78, 32]⟩ ++ f.cur)] 9) = s.w := ⟨⟨_, s1.h.alloc s1.h.size _⟩, rfl⟩
  have hown : (s1.w.alloc (.cells #[.string (⟨#[79, 82, 68, 69, 82, 32]⟩ ++ f.cus), .string (⟨#[68, 65, 89, 32]⟩ ++ dd), .string (⟨#[73, 78, 32]⟩ ++ f.cur)] 9)).ownsRow w.heap.size 9 1 (.slice (some ⟨s1.w.heap.size, 0, none⟩) 3 3) 3 (sts ((Pl.rowsT f).take 3)) := by
    rw [← HS3.out]
    exact World.ownsRow_lit (base := w.heap.size) (e := 9) (size := 1) s1.w #[.string (⟨#[79, 82, 68, 69, 82, 32]⟩ ++ f.cus), .string (⟨#[68, 65, 89, 32]⟩ ++ dd), .string (⟨#[73, 78, 32]⟩ ++ f.cur)] 3 (Nat.le_trans HB.out.size s1.h.size) (by unfold maxLen; omega) rfl
  refine hK _ _ ⟨hS, ?_⟩
  clear hK K
  generalize s1.w.alloc (.cells #[.string (⟨#[79, 82, 68, 69, 82, 32]⟩ ++ f.cus), .string (⟨#[68, 65, 89, 32]⟩ ++ dd), .string (⟨#[73, 78, 32]⟩ ++ f.cur)] 9) = W2 at *
  refine takeD (i := 11) (d := (some 3)) (v := ?_) rfl rfl (by kernel_rfl) (by decide +kernel) (by decide +kernel) (fun _ _ _ h => h) (Or.inl ⟨by first | kernel_rfl | rfl, ?_⟩) hS ?_
  rotate_left
  · intro w' hT; obtain ⟨s, rfl⟩ := hT; first | (go_simp; done) | (go_simp; with_reducible rfl)
  refine wpAnyH_done (by decide +kernel) ?_ _
  obtain ⟨s2, hs2⟩ := hS
  have hW2 : Below W.heap.size W W2 := by rw [hs2]; exact s2.h
  have HB2 := Lib.hid (HB.out.trans (hW2.mono HB.out.size))
  have p3 : W2.cell? ⟨w.heap.size, 3, none⟩ = some (.slice f.a f.ls.length f.k) := (hW2.cell (p := ⟨w.heap.size, 3, none⟩) hFl).trans (HFB.out.cell 3)
  have HE2 := Lib.hid (HE1.out.below hW2)
  have HR2 := Lib.hid (HR.out.below hW2)
  have hFl2 := Nat.lt_of_lt_of_le hFl hW2.size
  generalize s1.w.heap.size = g1 at *
  have HO := Lib.hid hown
  have HRL : Hid ((Pl.rowsT f).length = f.ls.length + 3) := Lib.hid (by unfold Pl.rowsT; simp)
  have HRG : Hid (∀ k (hk : k < f.ls.length), (Pl.rowsT f).take (k + 3 + 1) = (Pl.rowsT f).take (k + 3) ++ [Pl.lnS f.ls[k]]) := Lib.hid (fun k hk => by
    rw [List.take_succ_eq_append_getElem (by rw [HRL.out]; omega)]
    congr 2
    unfold Pl.rowsT
    simp)
  clear z0 z1 z2 k1 k2 k3 HD HE1 HR HS3 HFB hs2 s2 hown
  clear s1 hW2 hFl hFl2 HE2 HR2
  go_wp2_with fail
  go_loopw [3, 5, 6, 21] (fun v _ _ i wr => ∃ k : Nat, k ≤ f.ls.length ∧ i = .int .i64 k ∧ Hid (wr.ownsRow w.heap.size 9 1 v (k + 3) (sts ((Pl.rowsT f).take (k + 3)))) ∧ Hid (Below w.heap.size w wr)) (fun _ _ _ i _ => f.ls.length - (intOf i).toNat)
  case atStart => exact ⟨0, Nat.zero_le _, rfl, HO, HB2⟩
  case round =>
    obtain ⟨k, hk, rfl, HO, HW⟩ := hrel
    obtain ⟨wo, rfl⟩ : ∃ wo, wo = wr := ⟨_, rfl⟩
    by_cases hlt : k < f.ls.length
    · have hltI : (k : Int) < (f.ls.length : Int) := by omega
      have HLT := Lib.hid hlt
      obtain ⟨bx, ox, hax, hbx, hcx⟩ := HR0.out.open (by omega)
      have hr := row_at hbx hcx HW.out hlt
      have hx := HF.out.ls _ (List.getElem_mem hlt)
      have HTK := Lib.hid (HRG.out k hlt)
      clear hcx
      rw [hax]
      generalize f.ls[k] = x at *
      have bE := Blk.new wo 45 (lnA x)
      have HBE := Lib.hid ((Below.refl wo.heap.size wo).alloc (Nat.le_refl _) (.cells (lnA x) 45))
      have HEE := Lib.hid ((HE0.out.below HW.out).below HBE.out)
      have z0 := fun s : Ext (wo.alloc (.cells (lnA x) 45)) => s.cell (p := ⟨wo.heap.size, 0, none⟩) (bE.cell 0)
      have z1 := fun s : Ext (wo.alloc (.cells (lnA x) 45)) => s.cell (p := ⟨wo.heap.size, 1, none⟩) (bE.cell 1)
      have z2 := fun s : Ext (wo.alloc (.cells (lnA x) 45)) => s.cell (p := ⟨wo.heap.size, 2, none⟩) (bE.cell 2)
      have z3 := fun s : Ext (wo.alloc (.cells (lnA x) 45)) => s.cell (p := ⟨wo.heap.size, 3, none⟩) (bE.cell 3)
      have HD1 := Lib.hid (fun W hW => itoa_any x.col (by have := hx.c0; omega) (by have := hx.c1; omega) W hW)
      have HD2 := Lib.hid (fun W hW => itoa_any x.siz (by have := hx.s0; omega) (by have := hx.s1; omega) W hW)
      have HD3 := Lib.hid (fun W hW => itoa_any x.cnt (by have := hx.n0; omega) (by have := hx.n1; omega) W hW)
      have HJL : Hid ((Lib.join [Pl.byt x.md, Pl.dgs x.col.toNat, Pl.dgs x.siz.toNat, Pl.dgs x.cnt.toNat] [32]).length ≤ 100000000) := Lib.hid (by rw [Pl.join_words]; have := Pl.lnS_len hx; omega)
      have HJW := Lib.hid (Pl.join_words x)
      have HST : Hid (#[Value.string x.md, .string ⟨(Pl.dgs x.col.toNat).toArray⟩, .string ⟨(Pl.dgs x.siz.toNat).toArray⟩, .string ⟨(Pl.dgs x.cnt.toNat).toArray⟩].toList = sts [Pl.byt x.md, Pl.dgs x.col.toNat, Pl.dgs x.siz.toNat, Pl.dgs x.cnt.toNat]) := Lib.hid (by unfold sts; simp only [List.map_cons, List.map_nil, Pl.byt_back])
      generalize Pl.dgs x.col.toNat = d1 at *
      generalize Pl.dgs x.siz.toNat = d2 at *
      generalize Pl.dgs x.cnt.toNat = d3 at *
      have HSZ : Hid (wo.heap.size < (wo.alloc (.cells (lnA x) 45)).heap.size) := Lib.hid (by simp)
      clear hx hlt bE
      go_wp2_with (refine ldm_ln hr rfl _ rfl rfl ?_)
      generalize wo.alloc (.cells (lnA x) 45) = wa at *
      refine wp_region_held (S := fun V9 => ∃ s : Ext wa, V9 = s.w) (by kernel_rfl) ?_
      change wpAnyH _ _ _ _ _ _ _ _ (World.drew _)
      have hS : ∃ s : Ext wa, (World.drew wa) = s.w := ⟨⟨_, (Below.refl _ _).drew⟩, rfl⟩
      generalize World.drew wa = wad at *
      refine takeD (i := 0) (d := (some 25)) (v := ?_) rfl rfl (by kernel_rfl) (by decide +kernel) (by decide +kernel) (fun _ _ _ h => h) (Or.inl ⟨by first | kernel_rfl | rfl, ?_⟩) hS ?_
      rotate_left
      · intro w' hT; obtain ⟨s, rfl⟩ := hT; have p0 := z0 s; have p1 := z1 s; have p2 := z2 s; have p3 := z3 s; first | (go_simp; done) | (go_simp; with_reducible rfl)
      refine takeD (i := 1) (d := (some 26)) (v := ?_) rfl rfl (by kernel_rfl) (by decide +kernel) (by decide +kernel) (fun _ _ _ h => h) (Or.inl ⟨by first | kernel_rfl | rfl, ?_⟩) hS ?_
      rotate_left
      · intro w' hT; obtain ⟨s, rfl⟩ := hT; have p0 := z0 s; have p1 := z1 s; have p2 := z2 s; have p3 := z3 s; first | (go_simp; done) | (go_simp; with_reducible rfl)
      refine takeD (i := 2) (d := (some 27)) (v := ?_) rfl rfl (by kernel_rfl) (by decide +kernel) (by decide +kernel) (fun _ _ _ h => h) (Or.inl ⟨by first | kernel_rfl | rfl, ?_⟩) hS ?_
      rotate_left
      · intro w' hT; obtain ⟨s, rfl⟩ := hT; have p0 := z0 s; have p1 := z1 s; have p2 := z2 s; have p3 := z3 s; first | (go_simp; done) | (go_simp; with_reducible rfl)
      refine takeD (i := 3) (d := (some 28)) (v := ?_) rfl rfl (by kernel_rfl) (by decide +kernel) (by decide +kernel) (fun _ _ _ h => h) (Or.inl ⟨by first | kernel_rfl | rfl, ?_⟩) hS ?_
      rotate_left
      · intro w' hT; obtain ⟨s, rfl⟩ := hT; have p0 := z0 s; have p1 := z1 s; have p2 := z2 s; have p3 := z3 s; first | (go_simp; done) | (go_simp; with_reducible rfl)
      refine takeD (i := 5) (d := (some 30)) (v := ?_) rfl rfl (by kernel_rfl) (by decide +kernel) (by decide +kernel) (fun _ _ _ h => h) (Or.inl ⟨by first | kernel_rfl | rfl, ?_⟩) hS ?_
      rotate_left
      · intro w' hT; obtain ⟨s, rfl⟩ := hT; have p0 := z0 s; have p1 := z1 s; have p2 := z2 s; have p3 := z3 s; first | (go_simp; done) | (go_simp; with_reducible rfl)
      refine takeD (i := 6) (d := (some 31)) (v := ?_) rfl rfl (by kernel_rfl) (by decide +kernel) (by decide +kernel) (fun _ _ _ h => h) (Or.inl ⟨by first | kernel_rfl | rfl, ?_⟩) hS ?_
      rotate_left
      · intro w' hT; obtain ⟨s, rfl⟩ := hT; have p0 := z0 s; have p1 := z1 s; have p2 := z2 s; have p3 := z3 s; first | (go_simp; done) | (go_simp; with_reducible rfl)
      refine takeD (i := 8) (d := (some 33)) (v := ?_) rfl rfl (by kernel_rfl) (by decide +kernel) (by decide +kernel) (fun _ _ _ h => h) (Or.inl ⟨by first | kernel_rfl | rfl, ?_⟩) hS ?_
      rotate_left
      · intro w' hT; obtain ⟨s, rfl⟩ := hT; have p0 := z0 s; have p1 := z1 s; have p2 := z2 s; have p3 := z3 s; first | (go_simp; done) | (go_simp; with_reducible rfl)
      refine takeD (i := 9) (d := (some 34)) (v := ?_) rfl rfl (by kernel_rfl) (by decide +kernel) (by decide +kernel) (fun _ _ _ h => h) (Or.inl ⟨by first | kernel_rfl | rfl, ?_⟩) hS ?_
      rotate_left
      · intro w' hT; obtain ⟨s, rfl⟩ := hT; have p0 := z0 s; have p1 := z1 s; have p2 := z2 s; have p3 := z3 s; first | (go_simp; done) | (go_simp; with_reducible rfl)
      refine actNorm (fun a' ha => ?_); (try simp [go_sem] at ha); subst ha
      refine wpAnyH_all (rs := [4]) (by decide +kernel) (by simp) ?_
      intro i0 hi0
      have hi1 := List.mem_singleton.1 hi0
      clear hi0
      subst hi1
      obtain ⟨s0, rfl⟩ := hS
      refine wpOp_goE rfl (by kernel_rfl) (fun K hK => ?_)
      go_simp
      refine (HD1.out s0.w (HEE.out.below s0.h)).mono ?_
      rintro e W4 ⟨rfl, hb1⟩
      have hS : ∃ s : Ext wa, W4 = s.w := ⟨⟨_, s0.h.trans (hb1.mono s0.h.size)⟩, rfl⟩
      clear hb1
      refine hK _ _ ⟨hS, ?_⟩
      clear hK K
      refine actNorm (fun a' ha => ?_); (try simp [go_sem] at ha); subst ha
      refine wpAnyH_all (rs := [7]) (by decide +kernel) (by simp) ?_
      intro i0 hi0
      have hi1 := List.mem_singleton.1 hi0
      clear hi0
      subst hi1
      obtain ⟨s1, rfl⟩ := hS
      refine wpOp_goE rfl (by kernel_rfl) (fun K hK => ?_)
      go_simp
      refine (HD2.out s1.w (HEE.out.below s1.h)).mono ?_
      rintro e W5 ⟨rfl, hb1⟩
      have hS : ∃ s : Ext wa, W5 = s.w := ⟨⟨_, s1.h.trans (hb1.mono s1.h.size)⟩, rfl⟩
      clear hb1
      refine hK _ _ ⟨hS, ?_⟩
      clear hK K
      refine actNorm (fun a' ha => ?_); (try simp [go_sem] at ha); subst ha
      refine wpAnyH_all (rs := [10]) (by decide +kernel) (by simp) ?_
      intro i0 hi0
      have hi1 := List.mem_singleton.1 hi0
      clear hi0
      subst hi1
      obtain ⟨s2, rfl⟩ := hS
      refine wpOp_goE rfl (by kernel_rfl) (fun K hK => ?_)
      go_simp
      refine (HD3.out s2.w (HEE.out.below s2.h)).mono ?_
      rintro e W6 ⟨rfl, hb1⟩
      have hS : ∃ s : Ext wa, W6 = s.w := ⟨⟨_, s2.h.trans (hb1.mono s2.h.size)⟩, rfl⟩
      clear hb1
      refine hK _ _ ⟨hS, ?_⟩
      clear hK K
      refine actNorm (fun a' ha => ?_); (try simp [go_sem] at ha); subst ha
      refine wpAnyH_all (rs := [11]) (by decide +kernel) (by simp) ?_
      intro i0 hi0
      have hi1 := List.mem_singleton.1 hi0
      clear hi0
      subst hi1
      obtain ⟨s3, rfl⟩ := hS
      refine wpOp_goE rfl (by kernel_rfl) (fun K hK => ?_)
      go_simp
      have hS : ∃ s : Ext wa, s3.w.alloc (.cells #[.string x.md, .string ⟨d1.toArray⟩, .string ⟨d2.toArray⟩, .string ⟨d3.toArray⟩] 9) = s.w := ⟨⟨_, s3.h.alloc s3.h.size _⟩, rfl⟩
      have hown : (s3.w.alloc (.cells #[.string x.md, .string ⟨d1.toArray⟩, .string ⟨d2.toArray⟩, .string ⟨d3.toArray⟩] 9)).ownsRow 0 9 1 (.slice (some ⟨s3.w.heap.size, 0, none⟩) 4 4) 4 (sts [Pl.byt x.md, d1, d2, d3]) := by
        rw [← HST.out]
        exact World.ownsRow_lit (base := 0) (e := 9) (size := 1) s3.w #[.string x.md, .string ⟨d1.toArray⟩, .string ⟨d2.toArray⟩, .string ⟨d3.toArray⟩] 4 (Nat.zero_le _) (by unfold maxLen; omega) rfl
      refine hK _ _ ⟨hS, ?_⟩
      clear hK K
      generalize s3.w.alloc (.cells #[.string x.md, .string ⟨d1.toArray⟩, .string ⟨d2.toArray⟩, .string ⟨d3.toArray⟩] 9) = W7 at *
      refine takeD (i := 12) (d := (some 6)) (v := ?_) rfl rfl (by kernel_rfl) (by decide +kernel) (by decide +kernel) (fun _ _ _ h => h) (Or.inl ⟨by first | kernel_rfl | rfl, ?_⟩) hS ?_
      rotate_left
      · intro w' hT; obtain ⟨s, rfl⟩ := hT; first | (go_simp; done) | (go_simp; with_reducible rfl)
      refine wpAnyH_done (by decide +kernel) ?_ _
      obtain ⟨s4, hs4⟩ := hS
      have hW7 : Below wa.heap.size wa W7 := by rw [hs4]; exact s4.h
      have HB7 : Hid (Below wo.heap.size wo W7) := Lib.hid (HBE.out.trans (hW7.mono HBE.out.size))
      have HJ := Lib.hid (join_own ⟨#[32]⟩ W7 hown rfl (by omega) (by omega) HJL.out)
      have HJR2 : Hid ((⟨#[32]⟩ : ByteArray).data.toList = [32]) := Lib.hid rfl
      rw [HJR2.out, HJW.out] at HJ
      clear z0 z1 z2 z3 hs4 s4 hW7 HJR2 hown HD1 HD2 HD3 hr
      generalize s3.w.heap.size = g3 at *
      clear s3
      go_wp2_with fail
      refine HJ.out.mono ?_
      rintro e W8 ⟨rfl, hb8⟩
      have HB8 : Hid (Below wo.heap.size wo W8) := Lib.hid (HB7.out.trans (hb8.mono HB7.out.size))
      have HO8 := Lib.hid (own_keep HO.out HB8.out)
      have HS8 : Hid (w.heap.size ≤ W8.heap.size) := Lib.hid (Nat.le_trans HW.out.size HB8.out.size)
      clear hb8 HJ
      go_wp2_with (at_builtin; refine wpList_append_own _ rfl _ _ 55 rfl w.heap.size 9 i0 _ 1 16 Tryz.underlying55 hi hz0 hz1 hz2 rfl (by decide) _ _ _ rfl (HO8.out.alloc _) ⟨_, 0, none⟩ 1 1 [.string ⟨(Pl.lnS x).toArray⟩] rfl rfl (new_st _ _) (fun u hu => by simp at hu; subst hu; rfl) (by unfold maxLen; omega) (by omega) (by have := HS8.out; simp; omega) ?_; intro v' w9 hown' hgrow _)
      have HB9 : Hid (Below w.heap.size w w9) := Lib.hid (((HW.out.trans (HB8.out.mono HW.out.size)).alloc HS8.out (.cells #[.string ⟨(Pl.lnS x).toArray⟩] 9)).grown hgrow (by have := HS8.out; simp; omega) (fun b e => (HO8.out.lt b e).1))
      have HO9 : Hid (w9.ownsRow w.heap.size 9 1 v' (k + 1 + 3) (sts ((Pl.rowsT f).take (k + 3 + 1)))) := Lib.hid (by
        rw [HTK.out]
        unfold sts at hown' ⊢
        rw [List.map_append]
        exact hown')
      clear hgrow hown' HO HO8
      go_wp2_with fail
      go_roundw
      case rel => exact ⟨k + 1, HLT.out, by have := HLT.out; go_num, HO9, HB9⟩
      case measure => have := HLT.out; simp [intOf]; omega
    · obtain rfl : k = f.ls.length := by omega
      have HJ := Lib.hid (join_own ⟨#[10]⟩ wo HO.out (by rw [List.length_take, HRL.out]; omega) (by omega) (by omega) (by
        rw [List.take_of_length_le (by rw [HRL.out]; exact Nat.le_refl _)]
        have := congrArg List.length HJR.out
        rw [List.length_append] at this
        have := HT.out
        have e10 : ((⟨#[10]⟩ : ByteArray).data.toList) = [10] := rfl
        rw [e10]
        omega))
      have e10 : ((⟨#[10]⟩ : ByteArray).data.toList) = [10] := rfl
      rw [e10, List.take_of_length_le (by rw [HRL.out]; exact Nat.le_refl _)] at HJ
      have hjl : ¬ 9223372036854775807 < (Lib.join (Pl.rowsT f) [10]).length + 1 := by
        have := congrArg List.length HJR.out
        rw [List.length_append] at this
        have := HT.out
        omega
      clear e10
      generalize Lib.join (Pl.rowsT f) [10] = J at *
      go_wp2_with fail
      refine HJ.out.mono ?_
      rintro e W8 ⟨rfl, hb8⟩
      have HB8 := Lib.hid (HW.out.trans (hb8.mono HW.out.size))
      clear hb8 HJ
      go_wp2_with fail
      go_ret
      refine ⟨congrArg Ending.returned (congrArg Value.string (ByteArray.ext ?_)), HB8.out⟩
      rw [← HJR.out]
      simp
end Go.Proofs.YtbdnocijhbkclaaGreatDoor
