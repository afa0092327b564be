/- Merged: WB WD WE WF WG WH WI WJ WK WM WN. -/
import Derived.Test.YtbdnocijhbkclaaGreatDoorWA
import Derived.Test.YtbdnocijhbkclaaGreatDoorWC
import Derived.Test.YtbdnocijhbkclaaGreatDoorPB
/- Split and Discount, of the document; two lists that are the same. -/
namespace Go.Proofs.YtbdnocijhbkclaaGreatDoor
open Go.RowKit Go.Shelf

theorem wok_iff {l : List Int} : Pl.wok l = true ↔ ∀ i, i < l.length → Pl.wt (Pl.el l i) = true := by
  unfold Pl.wok
  rw [List.all_eq_true]
  constructor
  · intro h i hi
    rw [Pl.el_get hi]
    exact h _ (List.getElem_mem hi)
  · intro h x hx
    obtain ⟨i, hi, rfl⟩ := List.getElem_of_mem hx
    rw [← Pl.el_get hi]
    exact h i hi
theorem cu_part {l : List Int} {k : Nat} (h : ∀ i, i < k → Pl.wt (Pl.el l i) = true) (hk : k ≤ 100) : 0 ≤ Pl.cu l k ∧ Pl.cu l k ≤ 1000000 := by
  have h1 : (k : Int) * 0 ≤ Pl.cu l k ∧ Pl.cu l k ≤ (k : Int) * 10000 := Pl.sm_bound (f := Pl.el l) (n := k) (fun i hi => Pl.inB_true.1 (h i hi))
  omega

end Go.Proofs.YtbdnocijhbkclaaGreatDoor
/- ValidRates, rateOf, Convert, of the document. -/
namespace Go.Proofs.YtbdnocijhbkclaaGreatDoor
open Go.RowKit Go.Shelf

theorem vr_not {x : Pl.Rt} (h : ¬ Pl.Vr x) : Pl.vr x = false := by rw [← Bool.not_eq_true, Pl.vr_true]; exact h
theorem ky_ne {a b : Pl.Ky} (h : a.1 = b.1 → a.2 = b.2 → False) : a ≠ b := fun e => h (by rw [e]) (by rw [e])

end Go.Proofs.YtbdnocijhbkclaaGreatDoor
/- rateOf and priceOf, of the document. -/
namespace Go.Proofs.YtbdnocijhbkclaaGreatDoor
open Go.RowKit Go.Shelf

/-- an index, or -1 -/
def Pl.ati : Option Nat → Int
  | none => -1
  | some j => (j : Int)


end Go.Proofs.YtbdnocijhbkclaaGreatDoor
/- Convert, of the document; OrderConverts. -/
namespace Go.Proofs.YtbdnocijhbkclaaGreatDoor
open Go.RowKit Go.Shelf

theorem Go.Proofs.YtbdnocijhbkclaaGreatDoor.calls_same {P : Program} {f : FuncId} {args : Array Value} {w : World} {v : Value}
    (h : Calls P f args w fun e w' => e = .returned v ∧ w' = w) : Calls P f args w fun e w' => e = .returned v ∧ Below w.heap.size w w' :=
  h.mono fun _ w' ⟨he, hb⟩ => ⟨he, by rw [hb]; exact Below.refl _ _⟩

end Go.Proofs.YtbdnocijhbkclaaGreatDoor
/- validSteps, validPrice, ValidPrices, ValidForm, of the program. -/
namespace Go.Proofs.YtbdnocijhbkclaaGreatDoor
open Go.RowKit Go.Shelf

theorem stp_at {l : List Pl.Stp} {k : Nat} (h : k < l.length) : l[k] = l.getD k default := by
  rw [List.getD_eq_getElem?_getD, List.getElem?_eq_getElem h]; rfl

set_option maxRecDepth 100000 in
set_option maxHeartbeats 4000000 in
theorem vform_b (f : Pl.Fm) (v : Bool) (hv : Pl.vf f = v) (w : World) (hF : FmIn w f) :
    Calls Tryz.prog 14 #[.agg (fmA f)] w fun e w' => e = .returned (.bool v) ∧ Below w.heap.size w w' := by
  have hB := (Below.refl w.heap.size w).alloc (Nat.le_refl _) (.cells (fmA f) 24)
  have bX := Blk.new w 24 (fmA f)
  obtain ⟨n, hn⟩ : ∃ n, f.ls.length = n := ⟨_, rfl⟩
  have hn6 : n ≤ maxLen := by rw [← hn]; exact Nat.le_trans hF.cap hF.top
  have n63 := max63 hn6
  obtain ⟨x1, h1⟩ : ∃ y, Pl.wdB f.cus = y := ⟨_, rfl⟩
  obtain ⟨x2, h2⟩ : ∃ y, Pl.dy f.d = y := ⟨_, rfl⟩
  obtain ⟨x3, h3⟩ : ∃ y, Pl.cyB f.cur = y := ⟨_, rfl⟩
  obtain ⟨x4, h4⟩ : ∃ y, Pl.inB 1 (n : Int) 40 = y := ⟨_, rfl⟩
  obtain ⟨x5, h5⟩ : ∃ y, f.ls.all Pl.vl = y := ⟨_, rfl⟩
  have HV : Hid (v = (x1 && (x2 && (x3 && (x4 && x5))))) := Lib.hid (by rw [← hv]; exact Pl.vf_parts f n hn x1 x2 x3 x4 x5 h1 h2 h3 h4 h5)
  have eg : ∀ args w, (callFunc 34 args).run Tryz.prog w = .ok (.enter 34 args) w := enters_of Tryz.func34 (by kernel_rfl) rfl
  have H1 := Lib.hid (fun w' : World => word_b f.cus _ rfl hF.cus x1 h1 w')
  have H2 := Lib.hid (fun w' : World => dy_b f.d x2 h2 w')
  have H3 := Lib.hid (fun w' : World => cur_b f.cur _ rfl hF.cur x3 h3 w')
  have H4 := Lib.hid (fun w' : World => within_b (n : Int) 1 40 x4 h4 w')
  have H5 := Lib.hid (fun w' (hb : Below w.heap.size w w') => every_l 34 eg f.a f.ls f.k n hn hn6 Pl.vl x5 h5 w' (hF.rows.below hb) (fun z hz W _ => vline_b z (hF.each z hz) _ rfl W))
  rw [← hn] at H4 H5 n63
  clear hv h1 h2 h3 h4 h5 hF hn6 eg hn
  have q0 := bX.cell 0
  have HX := Lib.hid bX
  have HB := Lib.hid hB
  have hlt := bX.lt
  clear bX hB
  go_enter Tryz.func14, Tryz.ntmps14
  go_wp2_with fail
  refine (H1.out _).mono ?_
  rintro e w1 ⟨rfl, hb⟩
  have hB2 := HB.out.trans (hb.mono HB.out.size)
  have bX1 := HX.out.below hb hlt
  have p1 := bX1.cell 1
  have p2 := bX1.cell 2
  have hlt1 := bX1.lt
  clear hb H1 HX HB q0 hlt
  cases x1
  · go_wp2
    go_ret
    exact ⟨by rw [HV.out]; rfl, hB2⟩
  go_wp2_with fail
  refine (H2.out _).mono ?_
  rintro e w2 ⟨rfl, hw⟩
  subst hw
  cases x2
  · go_wp2
    go_ret
    exact ⟨by rw [HV.out]; rfl, hB2⟩
  go_wp2_with fail
  refine (H3.out _).mono ?_
  rintro e w3 ⟨rfl, hb3⟩
  have hB3 := hB2.trans (hb3.mono hB2.size)
  have p3 := (bX1.below hb3 hlt1).cell 3
  clear hb3 bX1 hB2 p1 p2 H2 H3
  cases x3
  · go_wp2
    go_ret
    exact ⟨by rw [HV.out]; rfl, hB3⟩
  go_wp2_with fail
  refine (H4.out _).mono ?_
  rintro e w4 ⟨rfl, hw⟩
  subst hw
  cases x4
  · go_wp2
    go_ret
    exact ⟨by rw [HV.out]; rfl, hB3⟩
  go_wp2_with fail
  refine (H5.out _ hB3).mono ?_
  rintro e w5 ⟨rfl, hb5⟩
  have hB5 := hB3.trans (hb5.mono hB3.size)
  go_wp2
  go_ret
  exact ⟨by rw [HV.out]; rfl, hB5⟩
end Go.Proofs.YtbdnocijhbkclaaGreatDoor
/- validSteps, ValidPrices, ValidForm, of the document. -/
namespace Go.Proofs.YtbdnocijhbkclaaGreatDoor
open Go.RowKit Go.Shelf

theorem sok_iff {l : List Pl.Stp} {k : Nat} (hk : k < l.length) : Pl.sok l k = true ↔ Pl.sb l k + 1 ≤ l[k].c ∧ l[k].c ≤ 100000 ∧ 0 ≤ l[k].m ∧ l[k].m ≤ 10000000 := by
  unfold Pl.sok
  rw [← stp_at hk, Bool.and_eq_true, Pl.inB_true, Pl.inB_true]
  constructor
  · rintro ⟨⟨a, b⟩, c, d⟩; exact ⟨a, b, c, d⟩
  · rintro ⟨a, b, c, d⟩; exact ⟨⟨a, b⟩, c, d⟩

end Go.Proofs.YtbdnocijhbkclaaGreatDoor
/- ValidPrices, ValidForm, of the document. -/
namespace Go.Proofs.YtbdnocijhbkclaaGreatDoor
open Go.RowKit Go.Shelf

theorem vp_not {x : Pl.Pr} (h : ¬ Pl.Vp x) : Pl.vp x = false := by rw [← Bool.not_eq_true, Pl.vp_true]; exact h
theorem vl_not {x : Pl.Ln} (h : ¬ Pl.Vl x) : Pl.vl x = false := by rw [← Bool.not_eq_true, Pl.vl_true]; exact h

end Go.Proofs.YtbdnocijhbkclaaGreatDoor
/- ValidForm, of the document. -/
namespace Go.Proofs.YtbdnocijhbkclaaGreatDoor
open Go.RowKit Go.Shelf

theorem vf_not {f : Pl.Fm} (h : ¬ Pl.Vf f) : Pl.vf f = false := by rw [← Bool.not_eq_true, Pl.vf_true]; exact h

set_option maxRecDepth 100000 in
set_option maxHeartbeats 16000000 in
theorem rvform_b (f : Pl.Fm) (v : Bool) (hv : Pl.vf f = v) (w : World) (hF : FmIn w f) :
    Calls Tryz.prog 16 #[.agg (fmA f)] w fun e w' => e = .returned (.bool v) ∧ Below w.heap.size w w' := by
  have hB := (Below.refl w.heap.size w).alloc (Nat.le_refl _) (.cells (fmA f) 24)
  have bX := Blk.new w 24 (fmA f)
  obtain ⟨n, hn⟩ : ∃ n, f.ls.length = n := ⟨_, rfl⟩
  have hn6 : n ≤ maxLen := by rw [← hn]; exact Nat.le_trans hF.cap hF.top
  have n63 := max63 hn6
  obtain ⟨x1, h1⟩ : ∃ y, Pl.wdB f.cus = y := ⟨_, rfl⟩
  obtain ⟨x2, h2⟩ : ∃ y, Pl.dy f.d = y := ⟨_, rfl⟩
  obtain ⟨x3, h3⟩ : ∃ y, Pl.cyB f.cur = y := ⟨_, rfl⟩
  have H1 := Lib.hid (fun w' : World => rword_b f.cus _ rfl hF.cus x1 h1 w')
  have H2 := Lib.hid (fun w' : World => rdy_b f.d x2 h2 w')
  have H3 := Lib.hid (fun w' : World => rcur_b f.cur _ rfl hF.cur x3 h3 w')
  have HFV : Hid (¬ Pl.Vf f → v = false) := Lib.hid (fun h => by rw [← hv]; exact vf_not h)
  have HVF : Hid (Pl.Vf f → x1 = true ∧ x2 = true ∧ x3 = true ∧ 1 ≤ n ∧ n ≤ 40 ∧ ∀ x, x ∈ f.ls → Pl.Vl x) := Lib.hid (fun h => ⟨by rw [← h1]; exact h.cus, by rw [← h2]; exact Pl.inB_true.2 ⟨h.d0, h.d1⟩, by rw [← h3]; exact h.cur, by have := h.n0; omega, by have := h.n1; omega, h.ls⟩)
  have HVT : Hid (x1 = true → x2 = true → x3 = true → 1 ≤ n → n ≤ 40 → (∀ x, x ∈ f.ls → Pl.Vl x) → v = true) := Lib.hid (fun a1 a2 a3 a4 a5 a6 => by
    rw [← hv, Pl.vf_true]
    exact ⟨h1.trans a1, (Pl.inB_true.1 (h2.trans a2)).1, (Pl.inB_true.1 (h2.trans a2)).2, h3.trans a3, by omega, by omega, a6⟩)
  have HR := Lib.hid (hF.rows.below hB)
  have HEA := Lib.hid hF.each
  have hfl : (fmA f) = #[.string f.cus, .int .i64 f.d, .string f.cur, .slice f.a n f.k] := by rw [← hn]
  rw [hfl] at hB bX HR ⊢
  have q0 := bX.cell 0
  have q1 := bX.cell 1
  have q2 := bX.cell 2
  have q3 := bX.cell 3
  have HB := Lib.hid hB
  have HN := Lib.hid hn
  generalize hls : f.ls = ls at *
  generalize f.a = fa at *
  generalize f.cus = cus at *
  generalize f.d = fd at *
  generalize f.cur = cur at *
  generalize f.k = fk at *
  clear hv h1 h2 h3 hF hn6 hn hfl bX hB hls
  generalize hW0 : w.alloc (.cells #[.string cus, .int .i64 fd, .string cur, .slice fa n fk] 24) = W0 at *
  cases x1
  · have HF := Lib.hid (HFV.out (fun h => by have := (HVF.out h).1; cases this))
    go_enter Tryz.func16, Tryz.ntmps16
    go_wp2_with fail
    refine (H1.out _).mono ?_
    rintro e w1 ⟨rfl, hw1⟩
    subst hw1
    go_wp2
    go_ret
    exact ⟨by rw [HF.out]; rfl, HB.out⟩
  cases x2
  · have HF := Lib.hid (HFV.out (fun h => by have := (HVF.out h).2.1; cases this))
    go_enter Tryz.func16, Tryz.ntmps16
    go_wp2_with fail
    refine (H1.out _).mono ?_
    rintro e w1 ⟨rfl, hw1⟩
    subst hw1
    go_wp2_with fail
    refine (H2.out _).mono ?_
    rintro e w1 ⟨rfl, hw1⟩
    subst hw1
    go_wp2
    go_ret
    exact ⟨by rw [HF.out]; rfl, HB.out⟩
  cases x3
  · have HF := Lib.hid (HFV.out (fun h => by have := (HVF.out h).2.2.1; cases this))
    go_enter Tryz.func16, Tryz.ntmps16
    go_wp2_with fail
    refine (H1.out _).mono ?_
    rintro e w1 ⟨rfl, hw1⟩
    subst hw1
    go_wp2_with fail
    refine (H2.out _).mono ?_
    rintro e w1 ⟨rfl, hw1⟩
    subst hw1
    go_wp2_with fail
    refine (H3.out _).mono ?_
    rintro e w1 ⟨rfl, hw1⟩
    subst hw1
    go_wp2
    go_ret
    exact ⟨by rw [HF.out]; rfl, HB.out⟩
  go_enter Tryz.func16, Tryz.ntmps16
  go_wp2_with fail
  refine (H1.out _).mono ?_
  rintro e w1 ⟨rfl, hw1⟩
  subst hw1
  go_wp2_with fail
  refine (H2.out _).mono ?_
  rintro e w1 ⟨rfl, hw1⟩
  subst hw1
  go_wp2_with fail
  refine (H3.out _).mono ?_
  rintro e w1 ⟨rfl, hw1⟩
  subst hw1
  by_cases g1 : (n : Int) < 1
  · have HF := Lib.hid (HFV.out (fun h => by have := (HVF.out h).2.2.2.1; omega))
    have d1 : decide ((n : Int) < 1) = true := decide_eq_true g1
    go_wp2
    go_ret
    exact ⟨by rw [HF.out]; rfl, HB.out⟩
  have d1 : decide ((n : Int) < 1) = false := decide_eq_false g1
  by_cases g2 : (n : Int) > 40
  · have HF := Lib.hid (HFV.out (fun h => by have := (HVF.out h).2.2.2.2.1; omega))
    have d2 : decide ((n : Int) > 40) = true := decide_eq_true g2
    go_wp2
    go_ret
    exact ⟨by rw [HF.out]; rfl, HB.out⟩
  have d2 : decide ((n : Int) > 40) = false := decide_eq_false g2
  have HVU := Lib.hid (HVT.out (by first | rfl | trivial) (by first | rfl | trivial) (by first | rfl | trivial) (by omega) (by omega))
  clear HVT H2 H3
  go_wp2
  have hgl : w.heap.size < w1.heap.size := by rw [← hW0]; simp
  go_loopw [3] (fun i wr => ∃ k : Nat, k ≤ n ∧ i = .int .i64 k ∧ Hid (∀ (i : Nat) (hi : i < ls.length), i < k → Pl.Vl ls[i]) ∧ Below w1.heap.size w1 wr) (fun i _ => n - (intOf i).toNat)
  case atStart => exact ⟨0, Nat.zero_le _, rfl, Lib.hid (fun i _ hi => absurd hi (Nat.not_lt_zero _)), Below.refl _ _⟩
  case round =>
    obtain ⟨k, hk, rfl, hall, hW⟩ := hrel
    obtain ⟨wo, rfl⟩ : ∃ wo, wo = wr := ⟨_, rfl⟩
    have p3 := (hW.cell (p := ⟨w.heap.size, 3, none⟩) hgl).trans q3
    have hBo := HB.out.trans (hW.mono HB.out.size)
    by_cases hlt : k < n
    · have hltI : (k : Int) < (n : Int) := by omega
      have hkx : k < ls.length := by rw [HN.out]; exact hlt
      obtain ⟨bx, ox, rfl, hbx, hcx⟩ := HR.out.open (by omega)
      have hr := row_at hbx hcx hW hkx
      have hea := HEA.out _ (List.getElem_mem hkx)
      have HBD : Hid (¬ Pl.Vl ls[k] → v = false) := Lib.hid (fun h => HFV.out (fun h' => h ((HVF.out h').2.2.2.2.2 _ (List.getElem_mem hkx))))
      have HNX : Hid (Pl.Vl ls[k] → ∀ (i : Nat) (hi : i < ls.length), i < k + 1 → Pl.Vl ls[i]) := Lib.hid (fun h i hi hik => by
        rcases Nat.lt_succ_iff_lt_or_eq.1 hik with h' | h'
        · exact hall.out i hi h'
        · subst h'; exact h)
      clear hcx hall
      generalize ls[k] = x at *
      obtain ⟨y1, h1⟩ : ∃ y, Pl.wdB x.md = y := ⟨_, rfl⟩
      have K1 := Lib.hid (fun w' : World => rword_b x.md _ rfl hea y1 h1 w')
      have HY : Hid (Pl.wdB x.md = y1) := Lib.hid h1
      have bE := Blk.new wo 45 (lnA x)
      have hBE := (Below.refl wo.heap.size wo).alloc (Nat.le_refl _) (.cells (lnA x) 45)
      have hW2 := hW.trans (hBE.mono hW.size)
      have hB2 := hBo.trans (hBE.mono hBo.size)
      have e0 := bE.cell 0
      have e1 := bE.cell 1
      have e2 := bE.cell 2
      have e3 := bE.cell 3
      clear hea h1 bE hBE hW hBo
      go_wp2_with (refine ldm_ln hr rfl _ rfl rfl ?_)
      refine (K1.out _).mono ?_
      rintro e w2 ⟨rfl, hw2⟩
      rw [← hw2] at e0 e1 e2 e3 hW2 hB2
      clear hw2 hr
      generalize wo.heap.size = ge at *
      cases y1
      · have HF := Lib.hid (HBD.out (fun h => by have := h.md; rw [HY.out] at this; cases this))
        go_wp2
        go_ret
        exact ⟨by rw [HF.out]; rfl, hB2⟩
      by_cases t0 : x.col < 1
      · have HF := Lib.hid (HBD.out (fun h => by have := h.c0; omega))
        have u0 : decide (x.col < 1) = true := decide_eq_true t0
        go_wp2
        go_ret
        exact ⟨by rw [HF.out]; rfl, hB2⟩
      have u0 : decide (x.col < 1) = false := decide_eq_false t0
      by_cases r0 : x.col > 9
      · have HF := Lib.hid (HBD.out (fun h => by have := h.c1; omega))
        have o0 : decide (x.col > 9) = true := decide_eq_true r0
        go_wp2
        go_ret
        exact ⟨by rw [HF.out]; rfl, hB2⟩
      have o0 : decide (x.col > 9) = false := decide_eq_false r0
      by_cases t1 : x.siz < 1
      · have HF := Lib.hid (HBD.out (fun h => by have := h.s0; omega))
        have u1 : decide (x.siz < 1) = true := decide_eq_true t1
        go_wp2
        go_ret
        exact ⟨by rw [HF.out]; rfl, hB2⟩
      have u1 : decide (x.siz < 1) = false := decide_eq_false t1
      by_cases r1 : x.siz > 1000000000
      · have HF := Lib.hid (HBD.out (fun h => by have := h.s1; omega))
        have o1 : decide (x.siz > 1000000000) = true := decide_eq_true r1
        go_wp2
        go_ret
        exact ⟨by rw [HF.out]; rfl, hB2⟩
      have o1 : decide (x.siz > 1000000000) = false := decide_eq_false r1
      by_cases t2 : x.cnt < 1
      · have HF := Lib.hid (HBD.out (fun h => by have := h.n0; omega))
        have u2 : decide (x.cnt < 1) = true := decide_eq_true t2
        go_wp2
        go_ret
        exact ⟨by rw [HF.out]; rfl, hB2⟩
      have u2 : decide (x.cnt < 1) = false := decide_eq_false t2
      by_cases r2 : x.cnt > 1000
      · have HF := Lib.hid (HBD.out (fun h => by have := h.n1; omega))
        have o2 : decide (x.cnt > 1000) = true := decide_eq_true r2
        go_wp2
        go_ret
        exact ⟨by rw [HF.out]; rfl, hB2⟩
      have o2 : decide (x.cnt > 1000) = false := decide_eq_false r2
      have HN2 := Lib.hid (HNX.out ⟨HY.out, by omega, by omega, by omega, by omega, by omega, by omega⟩)
      go_wp2
      go_roundw
      case rel => exact ⟨k + 1, by omega, by go_num, HN2, hW2⟩
      case measure => simp [intOf]; omega
    · obtain rfl : k = n := by omega
      have HT := Lib.hid (HVU.out (fun x hx => by
        obtain ⟨i, hi, rfl⟩ := List.getElem_of_mem hx
        exact hall.out i hi (by rw [← HN.out]; exact hi)))
      go_wp2
      go_ret
      exact ⟨by rw [HT.out]; rfl, hBo⟩
end Go.Proofs.YtbdnocijhbkclaaGreatDoor
/- centsFor, stepsOf, Price, cheapest, Cheapest, of the program. -/
namespace Go.Proofs.YtbdnocijhbkclaaGreatDoor
open Go.RowKit Go.Shelf

/-- a price whose steps lie in memory -/
structure PrM (W : World) (x : Pl.Pr) : Prop where
  rows : Rows stL 2 W x.a x.st
  len : x.st.length ≤ maxLen
theorem PrM.below {W W' : World} {x : Pl.Pr} (h : PrM W x) (hb : Below W.heap.size W W') : PrM W' x := ⟨h.rows.below hb, h.len⟩
theorem prM_of {w : World} {A : Option Addr} {l : List Pl.Pr} {c : Nat} (hI : PrsIn w A l c) {x : Pl.Pr} (h : x = default ∨ x ∈ l) : PrM w x := by
  rcases h with rfl | h
  · exact ⟨.inl rfl, Nat.zero_le _⟩
  · exact ⟨(hI.each _ h).1, Nat.le_trans (hI.each _ h).2.1 (hI.each _ h).2.2.1⟩

end Go.Proofs.YtbdnocijhbkclaaGreatDoor
/- pieces, amount, checkOrder, Line, Invoice, of the program. -/
namespace Go.Proofs.YtbdnocijhbkclaaGreatDoor
open Go.RowKit Go.Shelf

theorem prs_days {l : List Pl.Pr} (h : Pl.vps l = true) : l.length ≤ 60 ∧ ∀ x, x ∈ l → 0 ≤ x.d ∧ x.d ≤ 100000 := by
  rw [Pl.vps_eq, Pl.vls_true] at h
  refine ⟨h.1, fun x hx => ?_⟩
  obtain ⟨i, hi, rfl⟩ := List.getElem_of_mem hx
  have := Pl.vp_true.1 (h.2.1 i hi)
  exact ⟨this.d0, this.d1⟩
theorem rts_ok {l : List Pl.Rt} (h : Pl.vrs l = true) : l.length ≤ 60 ∧ ∀ x, x ∈ l → Pl.vr x = true := by
  rw [Pl.vrs_eq, Pl.vls_true] at h
  refine ⟨h.1, fun x hx => ?_⟩
  obtain ⟨i, hi, rfl⟩ := List.getElem_of_mem hx
  exact h.2.1 i hi

end Go.Proofs.YtbdnocijhbkclaaGreatDoor
/- Line, Invoice, of the program. -/
namespace Go.Proofs.YtbdnocijhbkclaaGreatDoor
open Go.RowKit Go.Shelf

theorem ln_at {l : List Pl.Ln} {k : Nat} (h : k < l.length) : l.getD k default = l[k] := by
  rw [List.getD_eq_getElem?_getD, List.getElem?_eq_getElem h]; rfl

/-- what Invoice gives -/
def IvI (l : List Pl.Pr) (r : List Pl.Rt) (f : Pl.Fm) (w : World) (v : Value) (w' : World) : Prop := w'.ownsRow w.heap.size 3 1 v (Pl.ivV l r f).length (flt inL (Pl.ivV l r f)) ∧ Below w.heap.size w w'
theorem ivV_no {l : List Pl.Pr} {r : List Pl.Rt} {f : Pl.Fm} (h : Pl.ivE l r f ≠ 0) : Pl.ivV l r f = [] := if_neg h
theorem ivS_no {l : List Pl.Pr} {r : List Pl.Rt} {f : Pl.Fm} (h : Pl.ivE l r f ≠ 0) : Pl.ivS l r f = 0 := if_neg h
end Go.Proofs.YtbdnocijhbkclaaGreatDoor
