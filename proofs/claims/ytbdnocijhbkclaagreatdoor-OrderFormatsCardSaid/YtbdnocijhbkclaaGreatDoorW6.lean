/- validRate, validLine, of the program; ValidRates of both. -/
import Derived.Test.YtbdnocijhbkclaaGreatDoorW5
import Derived.Test.YtbdnocijhbkclaaGreatDoorPC
namespace Go.Proofs.YtbdnocijhbkclaaGreatDoor
open Go.RowKit Go.Shelf

theorem bs_eq (a b : ByteArray) : (a.toList == b.toList) = decide (a = b) := by
  rw [ByteArray.toList_eq, ByteArray.toList_eq, Bool.eq_iff_iff, beq_iff_eq, decide_eq_true_iff]
  obtain ⟨⟨a⟩⟩ := a
  obtain ⟨⟨b⟩⟩ := b
  constructor
  · intro h
    have h' : a = b := h
    subst h'; rfl
  · intro h
    injection h with h
    injection h
theorem eur_eq (s : ByteArray) : (s.toList == [69, 85, 82]) = decide (s = Pl.eurB) := by
  rw [ByteArray.toList_eq, Bool.eq_iff_iff, beq_iff_eq, decide_eq_true_iff]
  obtain ⟨⟨l⟩⟩ := s
  constructor
  · intro h
    have h' : l = [69, 85, 82] := h
    subst h'; rfl
  · intro h
    injection h with h
    injection h


set_option maxRecDepth 100000 in
set_option maxHeartbeats 4000000 in
theorem vrate_b (x : Pl.Rt) (hs : x.cur.size ≤ maxLen) (v : Bool) (hv : Pl.vr x = v) (w : World) :
    Calls Tryz.prog 48 #[.agg (rtA x)] w fun e w' => e = .returned (.bool v) ∧ Below w.heap.size w w' := by
  have hB := (Below.refl w.heap.size w).alloc (Nat.le_refl _) (.cells (rtA x) 43)
  have bX := Blk.new w 43 (rtA x)
  obtain ⟨x1, h1⟩ : ∃ y, Pl.cyB x.cur = y := ⟨_, rfl⟩
  obtain ⟨x2, h2⟩ : ∃ y, decide (x.cur = Pl.eurB) = y := ⟨_, rfl⟩
  obtain ⟨x3, h3⟩ : ∃ y, Pl.dy x.d = y := ⟨_, rfl⟩
  obtain ⟨x4, h4⟩ : ∃ y, Pl.inB 1 x.num 1000000 = y := ⟨_, rfl⟩
  obtain ⟨x5, h5⟩ : ∃ y, Pl.inB 1 x.den 1000000 = y := ⟨_, rfl⟩
  have HV : Hid (v = (x1 && (!x2 && (x3 && (x4 && x5))))) := Lib.hid (by rw [← hv]; exact Pl.vr_parts x x1 x2 x3 x4 x5 h1 h2 h3 h4 h5)
  have H1 := Lib.hid (fun w' : World => cur_b x.cur _ rfl hs x1 h1 w')
  have H3 := Lib.hid (fun w' : World => dy_b x.d x3 h3 w')
  have H4 := Lib.hid (fun w' : World => within_b x.num 1 1000000 x4 h4 w')
  have H5 := Lib.hid (fun w' : World => within_b x.den 1 1000000 x5 h5 w')
  have q0 := bX.cell 0
  have HX := Lib.hid bX
  have HB := Lib.hid hB
  have hlt := bX.lt
  rw [← eur_eq] at h2
  clear hv h1 h3 h4 h5 hs bX hB
  go_enter Tryz.func48, Tryz.ntmps48
  go_wp2_with fail
  refine (H1.out _).mono ?_
  rintro e w1 ⟨rfl, hb⟩
  have hB2 := HB.out.trans (hb.mono HB.out.size)
  have bX1 := HX.out.below hb hlt
  have p0 := bX1.cell 0
  have p1 := bX1.cell 1
  have p2 := bX1.cell 2
  have p3 := bX1.cell 3
  clear hb bX1 H1 HX
  cases x1
  · go_wp2
    go_ret
    exact ⟨by rw [HV.out]; rfl, hB2⟩
  cases x2
  rotate_left
  · go_wp2
    go_ret
    exact ⟨by rw [HV.out]; rfl, hB2⟩
  go_wp2_with fail
  refine (H3.out _).mono ?_
  rintro e w2 ⟨rfl, hw⟩
  subst hw
  cases x3
  · go_wp2
    go_ret
    exact ⟨by rw [HV.out]; rfl, hB2⟩
  go_wp2_with fail
  refine (H4.out _).mono ?_
  rintro e w2 ⟨rfl, hw⟩
  subst hw
  cases x4
  · go_wp2
    go_ret
    exact ⟨by rw [HV.out]; rfl, hB2⟩
  go_wp2_with fail
  refine (H5.out _).mono ?_
  rintro e w2 ⟨rfl, hw⟩
  subst hw
  go_wp2
  go_ret
  exact ⟨by rw [HV.out]; rfl, hB2⟩

set_option maxRecDepth 100000 in
set_option maxHeartbeats 4000000 in
theorem vline_b (x : Pl.Ln) (hs : x.md.size ≤ maxLen) (v : Bool) (hv : Pl.vl x = v) (w : World) :
    Calls Tryz.prog 34 #[.agg (lnA x)] w fun e w' => e = .returned (.bool v) ∧ Below w.heap.size w w' := by
  have hB := (Below.refl w.heap.size w).alloc (Nat.le_refl _) (.cells (lnA x) 45)
  have bX := Blk.new w 45 (lnA x)
  obtain ⟨x1, h1⟩ : ∃ y, Pl.wdB x.md = y := ⟨_, rfl⟩
  obtain ⟨x2, h2⟩ : ∃ y, Pl.inB 1 x.col 9 = y := ⟨_, rfl⟩
  obtain ⟨x3, h3⟩ : ∃ y, Pl.inB 1 x.siz 1000000000 = y := ⟨_, rfl⟩
  obtain ⟨x4, h4⟩ : ∃ y, Pl.inB 1 x.cnt 1000 = y := ⟨_, rfl⟩
  have HV : Hid (v = (x1 && (x2 && (x3 && x4)))) := Lib.hid (by rw [← hv]; exact Pl.vl_parts x x1 x2 x3 x4 h1 h2 h3 h4)
  have H1 := Lib.hid (fun w' : World => word_b x.md _ rfl hs x1 h1 w')
  have H2 := Lib.hid (fun w' : World => within_b x.col 1 9 x2 h2 w')
  have H3 := Lib.hid (fun w' : World => within_b x.siz 1 1000000000 x3 h3 w')
  have H4 := Lib.hid (fun w' : World => within_b x.cnt 1 1000 x4 h4 w')
  have q0 := bX.cell 0
  have HX := Lib.hid bX
  have HB := Lib.hid hB
  have hlt := bX.lt
  clear hv h1 h2 h3 h4 hs bX hB
  go_enter Tryz.func34, Tryz.ntmps34
  go_wp2_with fail
  refine (H1.out _).mono ?_
  rintro e w1 ⟨rfl, hb⟩
  have hB2 := HB.out.trans (hb.mono HB.out.size)
  have bX1 := HX.out.below hb hlt
  have p0 := bX1.cell 0
  have p1 := bX1.cell 1
  have p2 := bX1.cell 2
  have p3 := bX1.cell 3
  clear hb bX1 H1 HX
  cases x1
  · go_wp2
    go_ret
    exact ⟨by rw [HV.out]; rfl, hB2⟩
  go_wp2_with fail
  refine (H2.out _).mono ?_
  rintro e w2 ⟨rfl, hw⟩
  subst hw
  cases x2
  · go_wp2
    go_ret
    exact ⟨by rw [HV.out]; rfl, hB2⟩
  go_wp2_with fail
  refine (H3.out _).mono ?_
  rintro e w2 ⟨rfl, hw⟩
  subst hw
  cases x3
  · go_wp2
    go_ret
    exact ⟨by rw [HV.out]; rfl, hB2⟩
  go_wp2_with fail
  refine (H4.out _).mono ?_
  rintro e w2 ⟨rfl, hw⟩
  subst hw
  go_wp2
  go_ret
  exact ⟨by rw [HV.out]; rfl, hB2⟩

set_option maxRecDepth 100000 in
set_option maxHeartbeats 4000000 in
theorem vrates_b (A : Option Addr) (l : List Pl.Rt) (c m : Nat) (hm : l.length = m) (hm6 : m ≤ maxLen) (hs : ∀ x, x ∈ l → x.cur.size ≤ maxLen) (v : Bool) (hv : Pl.vrs l = v) (w : World) (hI : Rows rtL 4 w A l) :
    Calls Tryz.prog 27 #[.slice A m c] w fun e w' => e = .returned (.bool v) ∧ Below w.heap.size w w' := by
  obtain ⟨x, hx⟩ : ∃ x, l.all Pl.vr = x := ⟨_, rfl⟩
  obtain ⟨y, hy⟩ : ∃ y, decide (l.map Pl.rk).Nodup = y := ⟨_, rfl⟩
  have HV : Hid (v = (decide (m ≤ 60) && (x && y))) := Lib.hid (by rw [← hv, Pl.vrs_eq]; exact Pl.vls_parts m hm x y hx hy)
  have hm63 : m ≤ 9223372036854775807 := by unfold maxLen at hm6; omega
  have eg : ∀ args w, (callFunc 48 args).run Tryz.prog w = .ok (.enter 48 args) w := enters_of Tryz.func48 (by kernel_rfl) rfl
  have H1 := Lib.hid (every_r 48 eg A l c m hm hm6 Pl.vr x hx w hI (fun z hz W _ => vrate_b z (hs z hz) _ rfl W))
  have H2 : Hid (m ≤ 60 → x = true → ∀ w', Below w.heap.size w w' → Calls Tryz.prog 49 #[.slice A m c, .func (.func 50) #[] #[]] w' fun e w'' => e = .returned (.bool y) ∧ Below w'.heap.size w' w'') := Lib.hid (fun h6 h1 w' hb => dist_r A l c m hm (by omega) (fun z hz => ⟨hs z hz, by
    rw [h1, List.all_eq_true] at hx
    have := Pl.vr_true.1 (hx z hz)
    exact WalkArith.wf_i64 (by have h0 := this.d0; have h1 := this.d1; show -9223372036854775808 ≤ z.d ∧ z.d ≤ 9223372036854775807; omega)⟩) y hy w' (hI.below hb))
  have hB := Below.refl w.heap.size w
  clear hx hy hv hs hI hm hm6 eg
  by_cases h6 : m ≤ 60
  rotate_left
  · have i1 : ¬ (m : Int) ≤ 60 := by omega
    have HF : Hid (v = false) := Lib.hid (by rw [HV.out, decide_eq_false h6]; rfl)
    go_enter Tryz.func27, Tryz.ntmps27
    go_wp2_with fail
    go_ret
    exact ⟨by rw [HF.out]; first | rfl | simp, hB⟩
  have i1 : (m : Int) ≤ 60 := by omega
  have HF : Hid (v = (x && y)) := Lib.hid (by rw [HV.out, decide_eq_true h6]; rfl)
  have H3 := Lib.hid (H2.out h6)
  clear HV H2 h6
  go_enter Tryz.func27, Tryz.ntmps27
  go_wp2_with fail
  refine H1.out.mono ?_
  rintro e w1 ⟨rfl, hb⟩
  cases x
  · go_wp2
    go_ret
    exact ⟨by rw [HF.out]; rfl, hb⟩
  · have H4 := Lib.hid (H3.out rfl w1 hb)
    go_wp2_with fail
    refine H4.out.mono ?_
    rintro e w2 ⟨rfl, hb2⟩
    have hB2 := hb.trans (hb2.mono hb.size)
    go_wp2
    go_ret
    exact ⟨by rw [HF.out]; rfl, hB2⟩

end Go.Proofs.YtbdnocijhbkclaaGreatDoor
