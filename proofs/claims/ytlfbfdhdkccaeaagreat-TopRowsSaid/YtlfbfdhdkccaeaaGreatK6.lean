/- checkRows. -/
import Derived.Test.YtlfbfdhdkccaeaaGreatK2
import Derived.Test.YtlfbfdhdkccaeaaGreatK3
import Derived.Test.YtlfbfdhdkccaeaaGreatK4
import Derived.Test.YtlfbfdhdkccaeaaGreatK5
namespace Go.Proofs.YtlfbfdhdkccaeaaGreat
open Go.RowKit Go.Shelf Go.Sort

theorem eg1' : ∀ args w, (callFunc 44 args).run Tryz.prog w = .ok (.enter 44 args) w := enters_of Tryz.func44 (by kernel_rfl) rfl
theorem eg2' : ∀ args w, (callFunc 46 args).run Tryz.prog w = .ok (.enter 46 args) w := enters_of Tryz.func46 (by kernel_rfl) rfl
theorem eg3' : ∀ args w, (callFunc 48 args).run Tryz.prog w = .ok (.enter 48 args) w := enters_of Tryz.func48 (by kernel_rfl) rfl
theorem eg4' : ∀ args w, (callFunc 50 args).run Tryz.prog w = .ok (.enter 50 args) w := enters_of Tryz.func50 (by kernel_rfl) rfl
theorem eg5' : ∀ args w, (callFunc 53 args).run Tryz.prog w = .ok (.enter 53 args) w := enters_of Tryz.func53 (by kernel_rfl) rfl

theorem blk_frame {w : World} {g : Nat} {t : TypeId} {cs : Array Value} {b : Nat} (h : Blk w b t cs) (hne : b ≠ g) (q : Nat) (y : Value) : Blk (w.setCell ⟨g, q, none⟩ y) b t cs := h.far hne y
theorem bnot_t {v : Bool} (h : true = !v) : v = false := by cases v <;> simp_all
theorem bnot_f {v : Bool} (h : false = !v) : v = true := by cases v <;> simp_all
/-- the boxes of checkRows -/
def Bxs (B : Nat) (sl sr su : Value) (W : World) : Prop := Blk W B 22 #[sl] ∧ Blk W (B + 1) 29 #[sr] ∧ Blk W (B + 1 + 1 + 1) 84 #[su]
theorem Bxs.below {B : Nat} {sl sr su : Value} {W W' : World} (h : Bxs B sl sr su W) (hb : Below W.heap.size W W') : Bxs B sl sr su W' := ⟨h.1.below hb h.1.lt, h.2.1.below hb h.2.1.lt, h.2.2.below hb h.2.2.lt⟩
theorem Bxs.set {B : Nat} {sl sr su : Value} {W : World} (h : Bxs B sl sr su W) (q : Nat) (y : Value) : Bxs B sl sr su (W.setCell ⟨B + 1 + 1, q, none⟩ y) := ⟨blk_frame h.1 (by omega) q y, blk_frame h.2.1 (by omega) q y, blk_frame h.2.2 (by omega) q y⟩
set_option maxRecDepth 100000 in
set_option maxHeartbeats 8000000 in
theorem checkRows_b (A : Option Addr) (l : List Pl.Bt) (c n : Nat) (hn : l.length = n) (hn4 : n ≤ 40) (AR : Option Addr) (rows : List (List Int)) (cr m : Nat) (hm : rows.length = m) (hm6 : m ≤ 1000) (w : World) (hI : Bts w A l) (hR : RR inL 1 w AR rows) :
    Calls Tryz.prog 20 #[.slice A n c, .slice AR m cr] w fun e w' => e = .returned (.int .i64 (Pl.ckR l rows)) ∧ Below w.heap.size w w' := by
  obtain ⟨i0, hi0, hz0, hn0, hy0⟩ := info_parts info4f
  have hmk := run_make ((w.alloc (.cells #[.slice A n c] 22)).alloc (.cells #[.slice AR m cr] 29)) 84 4 i0 (.bool false) Tryz.underlying84 hi0 hz0 .i64 .i64 (n : Int) (n : Int) (by omega) (by omega) (by rw [hy0]; omega) (by omega)
  rw [Int.toNat_natCast, hn0, Nat.mul_one] at hmk
  have eg1 := eg1'
  have hn1 : n ≤ 1000 := by omega
  obtain ⟨B, hBw⟩ : ∃ B, w.heap.size = B := ⟨_, rfl⟩
  obtain ⟨w4, hw4⟩ : ∃ w4, w4 = (((w.alloc (.cells #[.slice A n c] 22)).alloc (.cells #[.slice AR m cr] 29)).alloc (.cells (madeCells #[.bool false] n) 4)).alloc (.cells #[.slice (some ⟨B + 1 + 1, 0, none⟩) n n] 84) := ⟨_, rfl⟩
  have hB4 : Below w.heap.size w w4 := by
    rw [hw4]
    exact ((((Below.refl _ w).alloc (Nat.le_refl _) _).alloc (by simp) _).alloc (by simp; omega) _).alloc (by simp; omega) _
  have hX4 : Bxs B (.slice A n c) (.slice AR m cr) (.slice (some ⟨B + 1 + 1, 0, none⟩) n n) w4 := by
    rw [hw4]
    have b1 := (((Blk.new w 22 #[.slice A n c]).alloc (.cells #[.slice AR m cr] 29)).alloc (.cells (madeCells #[.bool false] n) 4)).alloc (.cells #[.slice (some ⟨B + 1 + 1, 0, none⟩) n n] 84)
    have b2 := ((Blk.new (w.alloc (.cells #[.slice A n c] 22)) 29 #[.slice AR m cr]).alloc (.cells (madeCells #[.bool false] n) 4)).alloc (.cells #[.slice (some ⟨B + 1 + 1, 0, none⟩) n n] 84)
    have b4 := Blk.new (((w.alloc (.cells #[.slice A n c] 22)).alloc (.cells #[.slice AR m cr] 29)).alloc (.cells (madeCells #[.bool false] n) 4)) 84 #[.slice (some ⟨B + 1 + 1, 0, none⟩) n n]
    simp only [World.size_alloc, hBw] at b1 b2 b4
    exact ⟨b1, b2, b4⟩
  have hst : StB w4 (B + 1 + 1) n (fun _ => false) := by
    have b3 := (StF.new ((w.alloc (.cells #[.slice A n c] 22)).alloc (.cells #[.slice AR m cr] 29)) n 4 Value.bool false).alloc (.cells #[.slice (some ⟨B + 1 + 1, 0, none⟩) n n] 84)
    simp only [World.size_alloc, hBw] at b3
    rw [hw4]
    exact b3
  have HR := Lib.hid hR
  have HI := Lib.hid hI
  have HN := Lib.hid hn
  have HM := Lib.hid hm
  have HK : Hid (Pl.ckR l rows = if rows.any (Pl.nix n) = true then 2 else if ¬ rows.flatten.Nodup then 43 else if rows.any (Pl.dty l) = true then 61 else if Pl.cov n rows.flatten = false ∨ Pl.emp rows = true then 4 else 0) := Lib.hid (by unfold Pl.ckR; rw [hn])
  have HIX : Hid (rows.any (Pl.nix n) = false → ∀ x, x ∈ rows.flatten → 0 ≤ x ∧ x < (n : Int)) := Lib.hid Pl.nix_mem
  -- the first: no index
  have HC1 : Hid (∀ v, rows.any (Pl.nix n) = v → Calls Tryz.prog 44 #[.func (.func 46) #[] #[.pointer (some ⟨B, 0, none⟩)], .pointer (some ⟨B + 1, 0, none⟩)] w4 fun e w' => e = .returned (.bool v) ∧ Below w4.heap.size w4 w' ∧ (v = false → True)) := Lib.hid (fun v hv =>
    conf_b 46 eg2' #[.pointer (some ⟨B, 0, none⟩)] AR rows cr m hm hm6 (fun i => Pl.nix n (rows.getD i [])) v
      (fun h => by rw [← hv]; exact Pl.any_all (by rw [hm]; exact h)) (fun i hi h => by rw [← hv]; exact Pl.any_one (by rw [hm]; exact hi) h)
      w4 (hR.below hB4) (fun _ _ => True)
      (fun i _ W hb _ A' c' h1 h2 h3 => (cl2_b A n c hn1 A' (rows.getD i []) c' _ rfl (Nat.le_trans h2 h3) B W (h1.below hb) ((hX4.below hb).1.cell 0)).mono fun e W' ⟨he, hb'⟩ => ⟨he, hb.trans (hb'.mono hb.size), fun _ => trivial⟩)
      w4 (Below.refl _ _) trivial (B + 1) (hX4.2.1.cell 0))
  -- the second: twice
  have HC2 : Hid (∀ w5, Below w4.heap.size w4 w5 → rows.any (Pl.nix n) = false → ∀ v, decide rows.flatten.Nodup = !v → Calls Tryz.prog 44 #[.func (.func 48) #[] #[.pointer (some ⟨B + 1 + 1 + 1, 0, none⟩)], .pointer (some ⟨B + 1, 0, none⟩)] w5 fun e w' => e = .returned (.bool v) ∧ Below w.heap.size w w' ∧ (v = false → Bxs B (.slice A n c) (.slice AR m cr) (.slice (some ⟨B + 1 + 1, 0, none⟩) n n) w' ∧ StB w' (B + 1 + 1) n (fun q => decide ((q : Int) ∈ Pl.fl rows m)) ∧ (Pl.fl rows m).Nodup)) := Lib.hid (fun w5 hb5 hnix v hv =>
    conf_b 48 eg3' #[.pointer (some ⟨B + 1 + 1 + 1, 0, none⟩)] AR rows cr m hm hm6 (fun i => !decide (Pl.fl rows (i + 1)).Nodup) v
      (fun h => by
        have hf : rows.flatten.Nodup := by
          by_cases h0 : m = 0
          · rw [List.eq_nil_of_length_eq_zero (hm.trans h0)]; simp
          · have h1 := h (m - 1) (by omega)
            rw [show m - 1 + 1 = m from by omega, ← hm, Pl.fl_all] at h1
            simpa using h1
        rw [decide_eq_true hf] at hv
        exact bnot_t hv)
      (fun i hi h => by
        have hf : ¬ rows.flatten.Nodup := fun h' => by
          rw [decide_eq_true (Pl.fl_nodup h' (i + 1))] at h; cases h
        rw [decide_eq_false hf] at hv
        exact bnot_f hv)
      w hR (fun i W => Bxs B (.slice A n c) (.slice AR m cr) (.slice (some ⟨B + 1 + 1, 0, none⟩) n n) W ∧ StB W (B + 1 + 1) n (fun q => decide ((q : Int) ∈ Pl.fl rows i)) ∧ (Pl.fl rows i).Nodup)
      (fun i hi W hb hx A' c' h1 h2 h3 => (cl3_b (B + 1 + 1) n A' (rows.getD i []) c' _ rfl (Nat.le_trans h2 h3) (Pl.fl rows i) hx.2.2 (fun x hx => Pl.nix_mem hnix x (Pl.row_mem (by rw [hm]; exact hi) hx)) (!decide (Pl.fl rows (i + 1)).Nodup) (by rw [Pl.fl_succ (by rw [hm]; exact hi), Bool.not_not])
          (Bxs B (.slice A n c) (.slice AR m cr) (.slice (some ⟨B + 1 + 1, 0, none⟩) n n)) (fun W q y h => h.set q y) w h1 (by omega) W hb hx.1 hx.2.1 (B + 1 + 1 + 1) (hx.1.2.2.cell 0)).mono
          fun e W' ⟨he, hb', hp, hs⟩ => ⟨he, hb', fun hno => ⟨hp, by rw [Pl.fl_succ (by rw [hm]; exact hi)]; exact hs hno, by simpa using hno⟩⟩)
      w5 (hB4.trans (hb5.mono hB4.size)) ⟨hX4.below hb5, (hst.below hb5 hst.lt).congr (fun q _ => by rw [Pl.fl_zero]; simp), by rw [Pl.fl_zero]; simp⟩ (B + 1) ((hX4.below hb5).2.1.cell 0))
  have HFL : Hid (Pl.fl rows m = rows.flatten) := Lib.hid (by rw [← hm]; exact Pl.fl_all rows)
  -- the third: dirty
  have HC3 : Hid (∀ w6, Below w.heap.size w w6 → Bxs B (.slice A n c) (.slice AR m cr) (.slice (some ⟨B + 1 + 1, 0, none⟩) n n) w6 → rows.any (Pl.nix n) = false → ∀ v, rows.any (Pl.dty l) = v → Calls Tryz.prog 44 #[.func (.func 50) #[] #[.pointer (some ⟨B, 0, none⟩)], .pointer (some ⟨B + 1, 0, none⟩)] w6 fun e w' => e = .returned (.bool v) ∧ Below w6.heap.size w6 w' ∧ (v = false → True)) := Lib.hid (fun w6 hB6 hX6 hnix v hv =>
    conf_b 50 eg4' #[.pointer (some ⟨B, 0, none⟩)] AR rows cr m hm hm6 (fun i => Pl.dty l (rows.getD i [])) v
      (fun h => by rw [← hv]; exact Pl.any_all (by rw [hm]; exact h)) (fun i hi h => by rw [← hv]; exact Pl.any_one (by rw [hm]; exact hi) h)
      w6 (hR.below hB6) (fun _ _ => True)
      (fun i hi W hb _ A' c' h1 h2 h3 => (cl4_b A l c n hn hn4 A' (rows.getD i []) c' _ rfl h2 h3 (fun x hx => Pl.nix_mem hnix x (Pl.row_mem (by rw [hm]; exact hi) hx)) B W ((hI.below hB6).below hb) (h1.below hb) ((hX6.below hb).1.cell 0)).mono fun e W' ⟨he, hb'⟩ => ⟨he, hb.trans (hb'.mono hb.size), fun _ => trivial⟩)
      w6 (Below.refl _ _) trivial (B + 1) (hX6.2.1.cell 0))
  -- the fourth: a batch is missing
  have HC4 : Hid (∀ w7, StB w7 (B + 1 + 1) n (fun q => decide ((q : Int) ∈ Pl.fl rows m)) → ∀ v, Pl.cov n rows.flatten = !v → Calls Tryz.prog 52 #[.slice (some ⟨B + 1 + 1, 0, none⟩) n n, .bool false] w7 fun e w' => e = .returned (.bool v) ∧ w' = w7) := Lib.hid (fun w7 hs v hv =>
    conb_b (B + 1 + 1) n hn1 _ v
      (fun h => by
        have hf : Pl.cov n rows.flatten = true := decide_eq_true (fun q hq => by have := h q hq; rw [HFL.out] at this; exact of_decide_eq_true this)
        rw [hf] at hv; exact bnot_t hv)
      (fun q hq h => by
        have hf : Pl.cov n rows.flatten = false := decide_eq_false (fun h' => by rw [HFL.out, decide_eq_true (h' q hq)] at h; cases h)
        rw [hf] at hv; exact bnot_f hv) w7 hs)
  -- the fifth: an empty row
  have HC5 : Hid (∀ w7, Below w.heap.size w w7 → Bxs B (.slice A n c) (.slice AR m cr) (.slice (some ⟨B + 1 + 1, 0, none⟩) n n) w7 → ∀ v, Pl.emp rows = v → Calls Tryz.prog 44 #[.func (.func 53) #[] #[], .pointer (some ⟨B + 1, 0, none⟩)] w7 fun e w' => e = .returned (.bool v) ∧ Below w7.heap.size w7 w' ∧ (v = false → True)) := Lib.hid (fun w7 hB7 hX7 v hv =>
    conf_b 53 eg5' #[] AR rows cr m hm hm6 (fun i => decide ((rows.getD i []).length = 0)) v
      (fun h => by rw [← hv]; exact Pl.any_all (p := fun r => decide (r.length = 0)) (by rw [hm]; exact h)) (fun i hi h => by rw [← hv]; exact Pl.any_one (p := fun r => decide (r.length = 0)) (by rw [hm]; exact hi) h)
      w7 (hR.below hB7) (fun _ _ => True)
      (fun i hi W hb _ A' c' h1 h2 h3 => (cl5_b A' (rows.getD i []).length c' W).mono fun e W' ⟨he, hw⟩ => ⟨he, by rw [hw]; exact hb, fun _ => trivial⟩)
      w7 (Below.refl _ _) trivial (B + 1) (hX7.2.1.cell 0))
  have HX4 := Lib.hid hX4
  rw [hBw] at hB4
  have HB0 : Hid (w.heap.size = B) := Lib.hid hBw
  obtain ⟨v1, hv1⟩ : ∃ v, rows.any (Pl.nix n) = v := ⟨_, rfl⟩
  obtain ⟨v2, hv2⟩ : ∃ v, decide rows.flatten.Nodup = !v := ⟨!decide rows.flatten.Nodup, by simp⟩
  obtain ⟨v3, hv3⟩ : ∃ v, rows.any (Pl.dty l) = v := ⟨_, rfl⟩
  obtain ⟨v4, hv4⟩ : ∃ v, Pl.cov n rows.flatten = !v := ⟨!Pl.cov n rows.flatten, by simp⟩
  obtain ⟨v5, hv5⟩ : ∃ v, Pl.emp rows = v := ⟨_, rfl⟩
  have hnd : rows.flatten.Nodup ↔ v2 = false := by
    constructor
    · intro h; rw [decide_eq_true h] at hv2; exact bnot_t hv2
    · intro h; rw [h] at hv2; exact of_decide_eq_true hv2
  have HK2 : Hid (Pl.ckR l rows = if v1 = true then 2 else if ¬ v2 = false then 43 else if v3 = true then 61 else if (!v4) = false ∨ v5 = true then 4 else 0) := Lib.hid (by
    rw [HK.out, hv1, hv3, hv4, hv5]
    simp only [hnd])
  have HC1' := Lib.hid (HC1.out v1 hv1)
  have HC2' := Lib.hid (fun w5 h h' => HC2.out w5 h (hv1.trans h') v2 hv2)
  have HC3' := Lib.hid (fun w6 h h1 h' => HC3.out w6 h h1 (hv1.trans h') v3 hv3)
  have HC4' := Lib.hid (fun w7 h => HC4.out w7 h v4 hv4)
  have HC5' := Lib.hid (fun w7 h h1 => HC5.out w7 h h1 v5 hv5)
  rw [hBw] at HC2' HC3' HC5'
  generalize Pl.ckR l rows = V at *
  clear HC1 HC2 HC3 HC4 HC5 HK HIX HFL HR HI HN HM hR hI hn hm hX4 hst hv1 hv2 hv3 hv4 hv5 hnd
  go_enter Tryz.func20, Tryz.ntmps20
  go_wp2_with fail
  try simp only [hBw]
  rw [← hw4]
  clear hw4 hmk hi0 hz0 hn0 hy0
  refine HC1'.out.mono ?_
  rintro e w5 ⟨rfl, hb5, _⟩
  have hB5 := hB4.trans (hb5.mono (hBw ▸ hB4.size))
  cases v1
  rotate_left
  · have HF : Hid (V = 2) := Lib.hid (HK2.out)
    go_wp2
    go_ret
    exact ⟨by rw [HF.out]; rfl, by rw [hBw]; exact hB5⟩
  have HX5 := Lib.hid (HX4.out.below hb5)
  have p5 := HX5.out.2.2.cell 0
  go_wp2_with fail
  refine (HC2'.out w5 hb5 (by first | rfl | trivial)).mono ?_
  rintro e w6 ⟨rfl, hB6, hx6⟩
  cases v2
  rotate_left
  · have HF : Hid (V = 43) := Lib.hid (HK2.out)
    clear hx6
    go_wp2
    go_ret
    exact ⟨by rw [HF.out]; rfl, by rw [hBw]; exact hB6⟩
  obtain ⟨hX6, hs6, _⟩ := hx6 rfl
  have HX6 := Lib.hid hX6
  have HS6 := Lib.hid hs6
  clear hX6 hs6 hx6 hB5 hb5 p5
  go_wp2_with fail
  refine (HC3'.out w6 hB6 HX6.out (by first | rfl | trivial)).mono ?_
  rintro e w7 ⟨rfl, hb7, _⟩
  have hB7 := hB6.trans (hb7.mono (hBw ▸ hB6.size))
  cases v3
  rotate_left
  · have HF : Hid (V = 61) := Lib.hid (HK2.out)
    go_wp2
    go_ret
    exact ⟨by rw [HF.out]; rfl, by rw [hBw]; exact hB7⟩
  have HX7 := Lib.hid (HX6.out.below hb7)
  have HS7 := Lib.hid (HS6.out.below hb7 HS6.out.lt)
  have p7 : w7.cell? ⟨B + 1 + 1 + 1, 0, none⟩ = some (.slice (some ⟨B + 1 + 1, 0, none⟩) n n) := HX7.out.2.2.cell 0
  clear hb7 hB6
  go_wp2_with fail
  refine (HC4'.out w7 HS7.out).mono ?_
  rintro e w8 ⟨rfl, hw8⟩
  obtain rfl : w7 = w8 := hw8.symm
  cases v4
  rotate_left
  · have HF : Hid (V = 4) := Lib.hid (HK2.out.trans (by simp))
    go_wp2
    go_ret
    exact ⟨by rw [HF.out]; rfl, by rw [hBw]; exact hB7⟩
  go_wp2_with fail
  refine (HC5'.out w7 hB7 HX7.out).mono ?_
  rintro e w9 ⟨rfl, hb9, _⟩
  have hB9 := hB7.trans (hb9.mono (hBw ▸ hB7.size))
  cases v5
  · have HF : Hid (V = 0) := Lib.hid (HK2.out.trans (by simp))
    go_wp2
    go_ret
    exact ⟨by rw [HF.out]; rfl, by rw [hBw]; exact hB9⟩
  · have HF : Hid (V = 4) := Lib.hid (HK2.out.trans (by simp))
    go_wp2
    go_ret
    exact ⟨by rw [HF.out]; rfl, by rw [hBw]; exact hB9⟩
end Go.Proofs.YtlfbfdhdkccaeaaGreat

