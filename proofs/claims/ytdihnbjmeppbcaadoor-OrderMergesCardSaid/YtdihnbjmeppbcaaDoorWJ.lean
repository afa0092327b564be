/- ValidForm, of the document. -/
import Derived.Test.YtdihnbjmeppbcaaDoorWI
namespace Go.Proofs.YtdihnbjmeppbcaaDoor
open Go.RowKit Go.Shelf

theorem vf_not {f : Pl.Fm} (h : ¬ Pl.Vf f) : Pl.vf f = false := by rw [← Bool.not_eq_true, Pl.vf_true]; exact h

set_option maxRecDepth 100000 in
set_option maxHeartbeats 16000000 in
theorem rvform_b (f : Pl.Fm) (v : Bool) (hv : Pl.vf f = v) (w : World) (hF : FmIn w f) :
    Calls Tryd.prog 20 #[.agg (fmA f)] w fun e w' => e = .returned (.bool v) ∧ Below w.heap.size w w' := by
  have hB := (Below.refl w.heap.size w).alloc (Nat.le_refl _) (.cells (fmA f) 28)
  have bX := Blk.new w 28 (fmA f)
  obtain ⟨n, hn⟩ : ∃ n, f.ls.length = n := ⟨_, rfl⟩
  have hn6 : n ≤ maxLen := by rw [← hn]; exact Nat.le_trans hF.cap hF.top
  have n63 := max63 hn6
  obtain ⟨x1, h1⟩ : ∃ y, Pl.wdB f.cus = y := ⟨_, rfl⟩
  obtain ⟨x2, h2⟩ : ∃ y, Pl.dy f.d = y := ⟨_, rfl⟩
  obtain ⟨x3, h3⟩ : ∃ y, Pl.cyB f.cur = y := ⟨_, rfl⟩
  have H1 := Lib.hid (fun w' : World => rword_b f.cus _ rfl hF.cus x1 h1 w')
  have H2 := Lib.hid (fun w' : World => rdy_b f.d x2 h2 w')
  have H3 := Lib.hid (fun w' : World => rcur_b f.cur _ rfl hF.cur x3 h3 w')
  have HFV : Hid (¬ Pl.Vf f → v = false) := Lib.hid (fun h => by rw [← hv]; exact vf_not h)
  have HVF : Hid (Pl.Vf f → x1 = true ∧ x2 = true ∧ x3 = true ∧ 1 ≤ n ∧ n ≤ 40 ∧ ∀ x, x ∈ f.ls → Pl.Vl x) := Lib.hid (fun h => ⟨by rw [← h1]; exact h.cus, by rw [← h2]; exact Pl.inB_true.2 ⟨h.d0, h.d1⟩, by rw [← h3]; exact h.cur, by have := h.n0; omega, by have := h.n1; omega, h.ls⟩)
  have HVT : Hid (x1 = true → x2 = true → x3 = true → 1 ≤ n → n ≤ 40 → (∀ x, x ∈ f.ls → Pl.Vl x) → v = true) := Lib.hid (fun a1 a2 a3 a4 a5 a6 => by
    rw [← hv, Pl.vf_true]
    exact ⟨h1.trans a1, (Pl.inB_true.1 (h2.trans a2)).1, (Pl.inB_true.1 (h2.trans a2)).2, h3.trans a3, by omega, by omega, a6⟩)
  have HR := Lib.hid (hF.rows.below hB)
  have HEA := Lib.hid hF.each
  have hfl : (fmA f) = #[.string f.cus, .int .i64 f.d, .string f.cur, .slice f.a n f.k] := by rw [← hn]
  rw [hfl] at hB bX HR ⊢
  have q0 := bX.cell 0
  have q1 := bX.cell 1
  have q2 := bX.cell 2
  have q3 := bX.cell 3
  have HB := Lib.hid hB
  have HN := Lib.hid hn
  generalize hls : f.ls = ls at *
  generalize f.a = fa at *
  generalize f.cus = cus at *
  generalize f.d = fd at *
  generalize f.cur = cur at *
  generalize f.k = fk at *
  clear hv h1 h2 h3 hF hn6 hn hfl bX hB hls
  generalize hW0 : w.alloc (.cells #[.string cus, .int .i64 fd, .string cur, .slice fa n fk] 28) = W0 at *
  cases x1
  · have HF := Lib.hid (HFV.out (fun h => by have := (HVF.out h).1; cases this))
    go_enter Tryd.func20, Tryd.ntmps20
    go_wp2_with fail
    refine (H1.out _).mono ?_
    rintro e w1 ⟨rfl, hw1⟩
    subst hw1
    go_wp2
    go_ret
    exact ⟨by rw [HF.out]; rfl, HB.out⟩
  cases x2
  · have HF := Lib.hid (HFV.out (fun h => by have := (HVF.out h).2.1; cases this))
    go_enter Tryd.func20, Tryd.ntmps20
    go_wp2_with fail
    refine (H1.out _).mono ?_
    rintro e w1 ⟨rfl, hw1⟩
    subst hw1
    go_wp2_with fail
    refine (H2.out _).mono ?_
    rintro e w1 ⟨rfl, hw1⟩
    subst hw1
    go_wp2
    go_ret
    exact ⟨by rw [HF.out]; rfl, HB.out⟩
  cases x3
  · have HF := Lib.hid (HFV.out (fun h => by have := (HVF.out h).2.2.1; cases this))
    go_enter Tryd.func20, Tryd.ntmps20
    go_wp2_with fail
    refine (H1.out _).mono ?_
    rintro e w1 ⟨rfl, hw1⟩
    subst hw1
    go_wp2_with fail
    refine (H2.out _).mono ?_
    rintro e w1 ⟨rfl, hw1⟩
    subst hw1
    go_wp2_with fail
    refine (H3.out _).mono ?_
    rintro e w1 ⟨rfl, hw1⟩
    subst hw1
    go_wp2
    go_ret
    exact ⟨by rw [HF.out]; rfl, HB.out⟩
  go_enter Tryd.func20, Tryd.ntmps20
  go_wp2_with fail
  refine (H1.out _).mono ?_
  rintro e w1 ⟨rfl, hw1⟩
  subst hw1
  go_wp2_with fail
  refine (H2.out _).mono ?_
  rintro e w1 ⟨rfl, hw1⟩
  subst hw1
  go_wp2_with fail
  refine (H3.out _).mono ?_
  rintro e w1 ⟨rfl, hw1⟩
  subst hw1
  by_cases g1 : (n : Int) < 1
  · have HF := Lib.hid (HFV.out (fun h => by have := (HVF.out h).2.2.2.1; omega))
    have d1 : decide ((n : Int) < 1) = true := decide_eq_true g1
    go_wp2
    go_ret
    exact ⟨by rw [HF.out]; rfl, HB.out⟩
  have d1 : decide ((n : Int) < 1) = false := decide_eq_false g1
  by_cases g2 : (n : Int) > 40
  · have HF := Lib.hid (HFV.out (fun h => by have := (HVF.out h).2.2.2.2.1; omega))
    have d2 : decide ((n : Int) > 40) = true := decide_eq_true g2
    go_wp2
    go_ret
    exact ⟨by rw [HF.out]; rfl, HB.out⟩
  have d2 : decide ((n : Int) > 40) = false := decide_eq_false g2
  have HVU := Lib.hid (HVT.out (by first | rfl | trivial) (by first | rfl | trivial) (by first | rfl | trivial) (by omega) (by omega))
  clear HVT H2 H3
  go_wp2
  have hgl : w.heap.size < w1.heap.size := by rw [← hW0]; simp
  go_loopw [3] (fun i wr => ∃ k : Nat, k ≤ n ∧ i = .int .i64 k ∧ Hid (∀ (i : Nat) (hi : i < ls.length), i < k → Pl.Vl ls[i]) ∧ Below w1.heap.size w1 wr) (fun i _ => n - (intOf i).toNat)
  case atStart => exact ⟨0, Nat.zero_le _, rfl, Lib.hid (fun i _ hi => absurd hi (Nat.not_lt_zero _)), Below.refl _ _⟩
  case round =>
    obtain ⟨k, hk, rfl, hall, hW⟩ := hrel
    obtain ⟨wo, rfl⟩ : ∃ wo, wo = wr := ⟨_, rfl⟩
    have p3 := (hW.cell (p := ⟨w.heap.size, 3, none⟩) hgl).trans q3
    have hBo := HB.out.trans (hW.mono HB.out.size)
    by_cases hlt : k < n
    · have hltI : (k : Int) < (n : Int) := by omega
      have hkx : k < ls.length := by rw [HN.out]; exact hlt
      obtain ⟨bx, ox, rfl, hbx, hcx⟩ := HR.out.open (by omega)
      have hr := row_at hbx hcx hW hkx
      have hea := HEA.out _ (List.getElem_mem hkx)
      have HBD : Hid (¬ Pl.Vl ls[k] → v = false) := Lib.hid (fun h => HFV.out (fun h' => h ((HVF.out h').2.2.2.2.2 _ (List.getElem_mem hkx))))
      have HNX : Hid (Pl.Vl ls[k] → ∀ (i : Nat) (hi : i < ls.length), i < k + 1 → Pl.Vl ls[i]) := Lib.hid (fun h i hi hik => by
        rcases Nat.lt_succ_iff_lt_or_eq.1 hik with h' | h'
        · exact hall.out i hi h'
        · subst h'; exact h)
      clear hcx hall
      generalize ls[k] = x at *
      obtain ⟨y1, h1⟩ : ∃ y, Pl.wdB x.md = y := ⟨_, rfl⟩
      have K1 := Lib.hid (fun w' : World => rword_b x.md _ rfl hea y1 h1 w')
      have HY : Hid (Pl.wdB x.md = y1) := Lib.hid h1
      have bE := Blk.new wo 55 (lnA x)
      have hBE := (Below.refl wo.heap.size wo).alloc (Nat.le_refl _) (.cells (lnA x) 55)
      have hW2 := hW.trans (hBE.mono hW.size)
      have hB2 := hBo.trans (hBE.mono hBo.size)
      have e0 := bE.cell 0
      have e1 := bE.cell 1
      have e2 := bE.cell 2
      have e3 := bE.cell 3
      clear hea h1 bE hBE hW hBo
      go_wp2_with (refine ldm_ln hr rfl _ rfl rfl ?_)
      refine (K1.out _).mono ?_
      rintro e w2 ⟨rfl, hw2⟩
      rw [← hw2] at e0 e1 e2 e3 hW2 hB2
      clear hw2 hr
      generalize wo.heap.size = ge at *
      cases y1
      · have HF := Lib.hid (HBD.out (fun h => by have := h.md; rw [HY.out] at this; cases this))
        go_wp2
        go_ret
        exact ⟨by rw [HF.out]; rfl, hB2⟩
      by_cases t0 : x.col < 1
      · have HF := Lib.hid (HBD.out (fun h => by have := h.c0; omega))
        have u0 : decide (x.col < 1) = true := decide_eq_true t0
        go_wp2
        go_ret
        exact ⟨by rw [HF.out]; rfl, hB2⟩
      have u0 : decide (x.col < 1) = false := decide_eq_false t0
      by_cases r0 : x.col > 9
      · have HF := Lib.hid (HBD.out (fun h => by have := h.c1; omega))
        have o0 : decide (x.col > 9) = true := decide_eq_true r0
        go_wp2
        go_ret
        exact ⟨by rw [HF.out]; rfl, hB2⟩
      have o0 : decide (x.col > 9) = false := decide_eq_false r0
      by_cases t1 : x.siz < 1
      · have HF := Lib.hid (HBD.out (fun h => by have := h.s0; omega))
        have u1 : decide (x.siz < 1) = true := decide_eq_true t1
        go_wp2
        go_ret
        exact ⟨by rw [HF.out]; rfl, hB2⟩
      have u1 : decide (x.siz < 1) = false := decide_eq_false t1
      by_cases r1 : x.siz > 1000000000
      · have HF := Lib.hid (HBD.out (fun h => by have := h.s1; omega))
        have o1 : decide (x.siz > 1000000000) = true := decide_eq_true r1
        go_wp2
        go_ret
        exact ⟨by rw [HF.out]; rfl, hB2⟩
      have o1 : decide (x.siz > 1000000000) = false := decide_eq_false r1
      by_cases t2 : x.cnt < 1
      · have HF := Lib.hid (HBD.out (fun h => by have := h.n0; omega))
        have u2 : decide (x.cnt < 1) = true := decide_eq_true t2
        go_wp2
        go_ret
        exact ⟨by rw [HF.out]; rfl, hB2⟩
      have u2 : decide (x.cnt < 1) = false := decide_eq_false t2
      by_cases r2 : x.cnt > 1000
      · have HF := Lib.hid (HBD.out (fun h => by have := h.n1; omega))
        have o2 : decide (x.cnt > 1000) = true := decide_eq_true r2
        go_wp2
        go_ret
        exact ⟨by rw [HF.out]; rfl, hB2⟩
      have o2 : decide (x.cnt > 1000) = false := decide_eq_false r2
      have HN2 := Lib.hid (HNX.out ⟨HY.out, by omega, by omega, by omega, by omega, by omega, by omega⟩)
      go_wp2
      go_roundw
      case rel => exact ⟨k + 1, by omega, by go_num, HN2, hW2⟩
      case measure => simp [intOf]; omega
    · obtain rfl : k = n := by omega
      have HT := Lib.hid (HVU.out (fun x hx => by
        obtain ⟨i, hi, rfl⟩ := List.getElem_of_mem hx
        exact hall.out i hi (by rw [← HN.out]; exact hi)))
      go_wp2
      go_ret
      exact ⟨by rw [HT.out]; rfl, hBo⟩
end Go.Proofs.YtdihnbjmeppbcaaDoor
