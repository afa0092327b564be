/- OrderTurns. -/
import Derived.Test.YtdihnbjmeppbcaaDoorWT
import Derived.Test.YtdihnbjmeppbcaaDoorWO
import Derived.Test.YtdihnbjmeppbcaaDoorP11
import Derived.Test.YtdihnbjmeppbcaaDoorWA
import Derived.Test.YtdihnbjmeppbcaaDoorL3
import Derived.Test.YtdihnbjmeppbcaaDoorW7
namespace Go.Proofs.YtdihnbjmeppbcaaDoor
open Go.RowKit Go.Shelf

theorem infoLn3 : (Tryd.prog.info? 55).map (fun i => (i.zero, i.size, i.bytes)) = some (some (.agg #[.string ⟨#[]⟩, .int .i64 0, .int .i64 0, .int .i64 0]), 4, 40) := by kernel_rfl

set_option maxRecDepth 100000 in
set_option maxHeartbeats 16000000 in
theorem law_turns (A : Option Addr) (l : List Pl.Pr) (c : Nat) (B : Option Addr) (r : List Pl.Rt) (j : Nat) (f : Pl.Fm) (z : Nat) (hz : z ≤ 255) (w : World) (hP : PrsIn w A l c) (hR : RtsIn w B r j) (hF : FmIn w f) :
    Calls Tryd.prog 8 #[.agg (mkA A l c B r j), .agg (fmA f), .int .u8 z] w fun e w' => e = .returned (.bool true) ∧ Below w.heap.size w w' := by
  have hB0 := (Below.refl w.heap.size w).alloc (Nat.le_refl _) (.cells (mkA A l c B r j) 25)
  have hB := hB0.alloc (by simp) (.cells (fmA f) 28)
  have bM := (Blk.new w 25 (mkA A l c B r j)).alloc (.cells (fmA f) 28)
  have bF := Blk.new (w.alloc (.cells (mkA A l c B r j) 25)) 28 (fmA f)
  simp only [World.size_alloc] at bF
  have HC := Lib.hid sane_any
  have hFl63 := max63 (Nat.le_trans hF.cap hF.top)
  have hr1 := bM.range
  have hr2 := bF.range
  have hMl := bM.lt
  have hFl := bF.lt
  have HM := Lib.hid bM
  have HFB := Lib.hid bF
  by_cases h70 : 70 < f.ls.length
  · have HW := Lib.hid (fun w' hb => wide_big A l c B r j f w' (hP.below (W' := w') hb) (hR.below hb) (hF.below hb) h70)
    clear hP hR hF bM bF hB0
    generalize hWo : (w.alloc (.cells (mkA A l c B r j) 25)).alloc (.cells (fmA f) 28) = W at *
    go_enter Tryd.func8, Tryd.ntmps8
    go_wp2_with (first | refine ldm_mk hr1 rfl _ rfl rfl ?_ | refine ldm_fm hr2 rfl _ rfl rfl ?_)
    refine (HW.out _ hB).mono ?_
    rintro e w2 ⟨rfl, hb2⟩
    have hB2 := hB.trans (hb2.mono hB.size)
    go_wp2_with fail
    refine (HC.out _).mono ?_
    rintro e w3 ⟨rfl, hb3⟩
    have hB3 := hB2.trans (hb3.mono hB2.size)
    go_wp2
    go_ret
    exact ⟨rfl, hB3⟩
  have HW := Lib.hid (fun w' hb => wide_any A l c B r j f w' (hP.below (W' := w') hb) (hR.below hb) (hF.below hb))
  have H1 := Lib.hid (fun w' hb => Invoice_b A l c B r j f w' (hP.below (W' := w') hb) (hR.below hb) (hF.below hb))
  have H2 := Lib.hid (fun (w' : World) (g : Pl.Fm) (hb : Below w.heap.size w w') (hg : FmIn w' g) => Invoice_b A l c B r j g w' (hP.below (W' := w') hb) (hR.below hb) hg)
  have HF := Lib.hid hF
  obtain ⟨n, hn⟩ : ∃ n, f.ls.length = n := ⟨_, rfl⟩
  have HN := Lib.hid hn
  rw [hn] at h70 hFl63
  clear hP hR hF bM bF hB0 hn
  generalize hWo : (w.alloc (.cells (mkA A l c B r j) 25)).alloc (.cells (fmA f) 28) = W at *
  go_enter Tryd.func8, Tryd.ntmps8
  go_wp2_with (first | refine ldm_mk hr1 rfl _ rfl rfl ?_ | refine ldm_fm hr2 rfl _ rfl rfl ?_)
  refine (HW.out _ hB).mono ?_
  rintro e w2 ⟨⟨v, rfl⟩, hb2⟩
  have hB2 := hB.trans (hb2.mono hB.size)
  have bM2 := HM.out.below hb2 hMl
  have bF2 := HFB.out.below hb2 hFl
  have hMl2 := bM2.lt
  have hFl2 := bF2.lt
  have q2 := bF2.range
  clear hr1 hr2 hb2 HW hB HM HFB hWo hMl hFl
  have f3 : w2.cell? ⟨w.heap.size + 1, 3, none⟩ = some (.slice f.a n f.k) := by rw [← HN.out]; exact bF2.cell 3
  cases v
  rotate_left
  · go_wp2_with fail
    refine (HC.out _).mono ?_
    rintro e w3 ⟨rfl, hb3⟩
    have hB3 := hB2.trans (hb3.mono hB2.size)
    go_wp2
    go_ret
    exact ⟨rfl, hB3⟩
  by_cases h0 : n = 0
  · subst h0
    go_wp2_with fail
    refine (HC.out _).mono ?_
    rintro e w3 ⟨rfl, hb3⟩
    have hB3 := hB2.trans (hb3.mono hB2.size)
    go_wp2
    go_ret
    exact ⟨rfl, hB3⟩
  have hn0 : ((n : Int) == 0) = false := by simp; omega
  have bG := (Blk.new w2 28 (fmA f)).set_ 3 (.slice none 0 0)
  have g3 := (Blk.new w2 28 (fmA f)).cell 3
  have z3 := (Blk.new w2 28 (fmA f)).frozen 3
  have hB3 := (hB2.alloc hB2.size (.cells (fmA f) 28))
  have ff3 : ((w2.alloc (.cells (fmA f) 28)).setCell ⟨w2.heap.size, 3, none⟩ (.slice none 0 0)).cell? ⟨w.heap.size + 1, 3, none⟩ = some (.slice f.a n f.k) := by
    rw [← HN.out]
    exact ((bF2.alloc (.cells (fmA f) 28)).far (p := ⟨w2.heap.size, 3, none⟩) (by show w.heap.size + 1 ≠ w2.heap.size; omega) (.slice none 0 0)).cell 3
  clear bG g3 z3 ff3 hB3
  have bG := Blk.new w2 28 #[.string f.cus, .int .i64 f.d, .string f.cur, .slice none 0 0]
  have hB3 := (Below.refl w2.heap.size w2).alloc (Nat.le_refl _) (.cells #[.string f.cus, .int .i64 f.d, .string f.cur, .slice none 0 0] 28)
  have HF2 := Lib.hid bF2
  have HM2 := Lib.hid bM2
  have HB2 := Lib.hid hB2
  obtain ⟨i0, hi, hz0, hz1, hz2⟩ := info_parts infoLn3
  go_wp2_with (refine ldm_fm (s := f) q2 rfl _ rfl rfl ?_)
  clear f3 q2 bF2 bM2 hB2
  have hgs : (w2.alloc (.cells #[.string f.cus, .int .i64 f.d, .string f.cur, .slice none 0 0] 28)).heap.size = w2.heap.size + 1 := by simp
  generalize w2.alloc (.cells #[.string f.cus, .int .i64 f.d, .string f.cur, .slice none 0 0] 28) = W3 at *
  go_loopw [9] (fun i wr => ∃ k : Nat, ∃ v : Value, k ≤ n ∧ i = .int .i64 k ∧ Blk wr w2.heap.size 28 #[.string f.cus, .int .i64 f.d, .string f.cur, v] ∧ wr.ownsRow (w2.heap.size + 1) 55 4 v k (flt lnL (Pl.tab (fun i => f.ls.getD ((i + z) % n) default) k)) ∧ Below w2.heap.size w2 wr) (fun i _ => n - (intOf i).toNat)
  case atStart => exact ⟨0, _, Nat.zero_le _, rfl, bG, World.ownsRow_nil _ _ _ _, hB3⟩
  case round =>
    clear bG hB3 hgs
    obtain ⟨k, v, hk, rfl, bG, hown, hW⟩ := hrel
    obtain ⟨wo, rfl⟩ : ∃ wo, wo = wr := ⟨_, rfl⟩
    by_cases hlt : k < n
    · have hltI : (k : Int) < (n : Int) := by omega
      obtain ⟨p, hp⟩ : ∃ p, (k + z) % n = p := ⟨_, rfl⟩
      have hpn : p < n := by rw [← hp]; exact Nat.mod_lt _ (by omega)
      have hpI : (p : Int) < (n : Int) := by omega
      have hpl : p < f.ls.length := by rw [HN.out]; exact hpn
      obtain ⟨bx, ox, hfaE, hbx, hcx⟩ := HF.out.rows.open (by omega)
      have hrx := row_at hbx hcx (HB2.out.trans (hW.mono HB2.out.size)) hpl
      have e1 : f.ls.getD ((k + z) % n) default = f.ls[p] := by rw [hp]; exact ln_at hpl
      have ff3 : wo.cell? ⟨w.heap.size + 1, 3, none⟩ = some (.slice (some ⟨bx, ox, none⟩) n f.k) := by
        rw [← hfaE, ← HN.out]
        exact (HF2.out.below hW hFl2).cell 3
      generalize f.ls[p] = x at *
      have g3 := bG.cell 3
      have y0 : _ = some (Value.string x.md) := hrx 0 _ rfl
      have y1 : _ = some (Value.int .i64 x.col) := hrx 1 _ rfl
      have y2 : _ = some (Value.int .i64 x.siz) := hrx 2 _ rfl
      have y3 : _ = some (Value.int .i64 x.cnt) := hrx 3 _ rfl
      rw [Nat.add_zero] at y0
      have kw : IntKind.i64.wrap ((k : Int) + (z : Int)) = (k : Int) + (z : Int) := IntWalk.i64_in _ (by omega)
      have kz : IntKind.i64.wrap (z : Int) = z := IntWalk.i64_in _ (by omega)
      have kp : ((k : Int) + (z : Int)).tmod (n : Int) = (p : Int) := by rw [← hp]; rfl
      have HX : Hid (f.a = some ⟨bx, ox, none⟩) := Lib.hid hfaE
      have HE1 : Hid (f.ls.getD ((k + z) % n) default = x) := Lib.hid e1
      have hbx2 : bx < w2.heap.size := Nat.lt_of_lt_of_le hbx HB2.out.size
      clear hcx hfaE e1
      clear g3 y0 y1 y2 y3
      go_wp2
      refine wp_region_held (S := fun W => W.cell? ⟨w.heap.size + 1, 3, none⟩ = some (.slice (some ⟨bx, ox, none⟩) n f.k) ∧ W.rangeAt bx (ox + p * 4) (lnL x)) (by kernel_rfl) ?_
      change wpAnyH _ _ _ _ _ _ _ _ (World.drew _)
      replace bG := bG.drew
      replace hW := hW.drew
      have hownD : wo.drew.ownsRow (w2.heap.size + 1) 55 4 v k (flt lnL (Pl.tab (fun i => f.ls.getD ((i + z) % n) default) k)) := hown
      have hSW : wo.drew.cell? ⟨w.heap.size + 1, 3, none⟩ = some (.slice (some ⟨bx, ox, none⟩) n f.k) ∧ wo.drew.rangeAt bx (ox + p * 4) (lnL x) := ⟨ff3, hrx⟩
      clear hown ff3 hrx
      generalize wo.drew = W at *
      refine wpAnyH_take (i := 0) (v := ?_) rfl (by kernel_rfl) (by decide +kernel) (by decide +kernel) (fun _ _ _ h => h) (Or.inl ⟨by rfl, ?_⟩) hSW ?_
      rotate_left
      · intro w' hS; have s3 := hS.1; have y0 : _ = some (Value.string x.md) := hS.2 0 _ rfl; have y1 : _ = some (Value.int .i64 x.col) := hS.2 1 _ rfl; have y2 : _ = some (Value.int .i64 x.siz) := hS.2 2 _ rfl; have y3 : _ = some (Value.int .i64 x.cnt) := hS.2 3 _ rfl; rw [Nat.add_zero] at y0; first | (go_simp; done) | (go_simp; with_reducible rfl)
      refine wpAnyH_take (i := 2) (v := ?_) rfl (by kernel_rfl) (by decide +kernel) (by decide +kernel) (fun _ _ _ h => h) (Or.inl ⟨by rfl, ?_⟩) hSW ?_
      rotate_left
      · intro w' hS; have s3 := hS.1; have y0 : _ = some (Value.string x.md) := hS.2 0 _ rfl; have y1 : _ = some (Value.int .i64 x.col) := hS.2 1 _ rfl; have y2 : _ = some (Value.int .i64 x.siz) := hS.2 2 _ rfl; have y3 : _ = some (Value.int .i64 x.cnt) := hS.2 3 _ rfl; rw [Nat.add_zero] at y0; first | (go_simp; done) | (go_simp; with_reducible rfl)
      refine wpAnyH_take (i := 3) (v := .slice (some ⟨bx, ox, none⟩) n f.k) rfl (by kernel_rfl) (by decide +kernel) (by decide +kernel) (fun _ _ _ h => h) (Or.inl ⟨by rfl, ?_⟩) hSW ?_
      · intro w' hS; have s3 := hS.1; have y0 : _ = some (Value.string x.md) := hS.2 0 _ rfl; have y1 : _ = some (Value.int .i64 x.col) := hS.2 1 _ rfl; have y2 : _ = some (Value.int .i64 x.siz) := hS.2 2 _ rfl; have y3 : _ = some (Value.int .i64 x.cnt) := hS.2 3 _ rfl; rw [Nat.add_zero] at y0; first | (go_simp; done) | (go_simp; with_reducible rfl)
      refine wpAnyH_take (i := 4) (v := ?_) rfl (by kernel_rfl) (by decide +kernel) (by decide +kernel) (fun _ _ _ h => h) (Or.inl ⟨by rfl, ?_⟩) hSW ?_
      rotate_left
      · intro w' hS; have s3 := hS.1; have y0 : _ = some (Value.string x.md) := hS.2 0 _ rfl; have y1 : _ = some (Value.int .i64 x.col) := hS.2 1 _ rfl; have y2 : _ = some (Value.int .i64 x.siz) := hS.2 2 _ rfl; have y3 : _ = some (Value.int .i64 x.cnt) := hS.2 3 _ rfl; rw [Nat.add_zero] at y0; first | (go_simp; done) | (go_simp; with_reducible rfl)
      refine wpAnyH_take (i := 5) (v := ?_) rfl (by kernel_rfl) (by decide +kernel) (by decide +kernel) (fun _ _ _ h => h) (Or.inl ⟨by rfl, ?_⟩) hSW ?_
      rotate_left
      · intro w' hS; have s3 := hS.1; have y0 : _ = some (Value.string x.md) := hS.2 0 _ rfl; have y1 : _ = some (Value.int .i64 x.col) := hS.2 1 _ rfl; have y2 : _ = some (Value.int .i64 x.siz) := hS.2 2 _ rfl; have y3 : _ = some (Value.int .i64 x.cnt) := hS.2 3 _ rfl; rw [Nat.add_zero] at y0; first | (go_simp; done) | (go_simp; with_reducible rfl)
      refine wpAnyH_take (i := 6) (v := .int .i64 (z : Int)) rfl (by kernel_rfl) (by decide +kernel) (by decide +kernel) (fun _ _ _ h => h) (Or.inl ⟨by rfl, ?_⟩) hSW ?_
      · intro w' hS; have s3 := hS.1; have y0 : _ = some (Value.string x.md) := hS.2 0 _ rfl; have y1 : _ = some (Value.int .i64 x.col) := hS.2 1 _ rfl; have y2 : _ = some (Value.int .i64 x.siz) := hS.2 2 _ rfl; have y3 : _ = some (Value.int .i64 x.cnt) := hS.2 3 _ rfl; rw [Nat.add_zero] at y0; first | (go_simp; done) | (go_simp; with_reducible rfl)
      refine wpAnyH_take (i := 7) (v := .int .i64 ((k : Int) + (z : Int))) rfl (by kernel_rfl) (by decide +kernel) (by decide +kernel) (fun _ _ _ h => h) (Or.inl ⟨by rfl, ?_⟩) hSW ?_
      · intro w' hS; have s3 := hS.1; have y0 : _ = some (Value.string x.md) := hS.2 0 _ rfl; have y1 : _ = some (Value.int .i64 x.col) := hS.2 1 _ rfl; have y2 : _ = some (Value.int .i64 x.siz) := hS.2 2 _ rfl; have y3 : _ = some (Value.int .i64 x.cnt) := hS.2 3 _ rfl; rw [Nat.add_zero] at y0; first | (go_simp; done) | (go_simp; with_reducible rfl)
      refine wpAnyH_take (i := 8) (v := ?_) rfl (by kernel_rfl) (by decide +kernel) (by decide +kernel) (fun _ _ _ h => h) (Or.inl ⟨by rfl, ?_⟩) hSW ?_
      rotate_left
      · intro w' hS; have s3 := hS.1; have y0 : _ = some (Value.string x.md) := hS.2 0 _ rfl; have y1 : _ = some (Value.int .i64 x.col) := hS.2 1 _ rfl; have y2 : _ = some (Value.int .i64 x.siz) := hS.2 2 _ rfl; have y3 : _ = some (Value.int .i64 x.cnt) := hS.2 3 _ rfl; rw [Nat.add_zero] at y0; first | (go_simp; done) | (go_simp; with_reducible rfl)
      refine wpAnyH_take (i := 9) (v := .int .i64 (p : Int)) rfl (by kernel_rfl) (by decide +kernel) (by decide +kernel) (fun _ _ _ h => h) (Or.inl ⟨by rfl, ?_⟩) hSW ?_
      · intro w' hS; have s3 := hS.1; have y0 : _ = some (Value.string x.md) := hS.2 0 _ rfl; have y1 : _ = some (Value.int .i64 x.col) := hS.2 1 _ rfl; have y2 : _ = some (Value.int .i64 x.siz) := hS.2 2 _ rfl; have y3 : _ = some (Value.int .i64 x.cnt) := hS.2 3 _ rfl; rw [Nat.add_zero] at y0; first | (go_simp; done) | (go_simp; with_reducible rfl)
      refine wpAnyH_take (i := 10) (v := .pointer (some ⟨bx, ox + p * 4, none⟩)) rfl (by kernel_rfl) (by decide +kernel) (by decide +kernel) (fun _ _ _ h => h) (Or.inl ⟨by rfl, ?_⟩) hSW ?_
      · intro w' hS; have s3 := hS.1; have y0 : _ = some (Value.string x.md) := hS.2 0 _ rfl; have y1 : _ = some (Value.int .i64 x.col) := hS.2 1 _ rfl; have y2 : _ = some (Value.int .i64 x.siz) := hS.2 2 _ rfl; have y3 : _ = some (Value.int .i64 x.cnt) := hS.2 3 _ rfl; rw [Nat.add_zero] at y0; first | (go_simp; done) | (go_simp; with_reducible rfl)
      refine wpAnyH_take (i := 11) (v := .agg (lnA x)) rfl (by kernel_rfl) (by decide +kernel) (by decide +kernel) (fun _ _ _ h => h) (Or.inl ⟨by rfl, ?_⟩) hSW ?_
      · intro w' hS; have s3 := hS.1; have y0 : _ = some (Value.string x.md) := hS.2 0 _ rfl; have y1 : _ = some (Value.int .i64 x.col) := hS.2 1 _ rfl; have y2 : _ = some (Value.int .i64 x.siz) := hS.2 2 _ rfl; have y3 : _ = some (Value.int .i64 x.cnt) := hS.2 3 _ rfl; rw [Nat.add_zero] at y0; first | (go_simp; done) | (go_simp; with_reducible rfl)
      have hfW : w.heap.size + 1 < W.heap.size := Nat.lt_of_lt_of_le hFl2 hW.size
      have hbW : bx < W.heap.size := Nat.lt_of_lt_of_le hbx (Nat.le_trans HB2.out.size hW.size)
      have g3 := bG.cell 3
      have g3a := (bG.alloc (.cells (lnL x).toArray 55)).cell 3
      refine wpAnyH_all (rs := [1, 12]) (by decide +kernel) (by simp) ?_
      intro i1 hi1
      simp only [List.mem_cons, List.not_mem_nil, or_false] at hi1
      rcases hi1 with rfl | rfl
      case' inl =>
        refine wpOp_go rfl rfl (fun K hK => ?_)
        go_simp
        refine hK _ _ ⟨hSW, ?_⟩
        clear hK K
        refine wpAnyH_all (rs := [12]) (by decide +kernel) (by simp) ?_
        intro i1 hi1
        obtain rfl := List.mem_singleton.1 hi1
        refine wpOp_go rfl rfl (fun K hK => ?_)
        go_simp
        refine hK _ _ ⟨⟨((Below.refl W.heap.size W).alloc (Nat.le_refl _) (.cells (lnL x).toArray 55)).cell (p := ⟨w.heap.size + 1, 3, none⟩) hfW |>.trans hSW.1, rangeAt_below hSW.2 hbW ((Below.refl W.heap.size W).alloc (Nat.le_refl _) (.cells (lnL x).toArray 55))⟩, ?_⟩
        clear hK K
      case' inr =>
        refine wpOp_go rfl rfl (fun K hK => ?_)
        go_simp
        refine hK _ _ ⟨⟨((Below.refl W.heap.size W).alloc (Nat.le_refl _) (.cells (lnL x).toArray 55)).cell (p := ⟨w.heap.size + 1, 3, none⟩) hfW |>.trans hSW.1, rangeAt_below hSW.2 hbW ((Below.refl W.heap.size W).alloc (Nat.le_refl _) (.cells (lnL x).toArray 55))⟩, ?_⟩
        clear hK K
        refine wpAnyH_all (rs := [1]) (by decide +kernel) (by simp) ?_
        intro i1 hi1
        obtain rfl := List.mem_singleton.1 hi1
        refine wpOp_go rfl rfl (fun K hK => ?_)
        go_simp
        refine hK _ _ ⟨⟨((Below.refl W.heap.size W).alloc (Nat.le_refl _) (.cells (lnL x).toArray 55)).cell (p := ⟨w.heap.size + 1, 3, none⟩) hfW |>.trans hSW.1, rangeAt_below hSW.2 hbW ((Below.refl W.heap.size W).alloc (Nat.le_refl _) (.cells (lnL x).toArray 55))⟩, ?_⟩
        clear hK K
      all_goals
        have hSA := hSW.1
        have bGa := bG.alloc (.cells (lnL x).toArray 55)
        have hownA := hownD.alloc (.cells (lnL x).toArray 55)
        have hWA := hW.alloc hW.size (.cells (lnL x).toArray 55)
        have hS1 : (W.alloc (.cells (lnL x).toArray 55)).cell? ⟨w.heap.size + 1, 3, none⟩ = some (.slice (some ⟨bx, ox, none⟩) n f.k) ∧ (W.alloc (.cells (lnL x).toArray 55)).rangeAt bx (ox + p * 4) (lnL x) := ⟨((Below.refl W.heap.size W).alloc (Nat.le_refl _) (.cells (lnL x).toArray 55)).cell (p := ⟨w.heap.size + 1, 3, none⟩) hfW |>.trans hSW.1, rangeAt_below hSW.2 hbW ((Below.refl W.heap.size W).alloc (Nat.le_refl _) (.cells (lnL x).toArray 55))⟩
        have hnew := new_cells' W 55 (lnL x) rfl
        have hsz : (W.alloc (.cells (lnL x).toArray 55)).heap.size = W.heap.size + 1 := by simp
        change wpAnyH _ _ _ _ _ _ _ _ (W.alloc (.cells (lnL x).toArray 55))
        have hW0 := hW.size
        have hgA : w2.heap.size + 1 ≤ (W.alloc (.cells (lnL x).toArray 55)).heap.size := by omega
        clear hSW hownD bG hW g3 g3a hSA hW0
        generalize hWA' : W.alloc (.cells (lnL x).toArray 55) = WA at *
        refine wpAnyH_all (rs := [13]) (by decide +kernel) (by simp) ?_
        intro i1 hi1
        obtain rfl := List.mem_singleton.1 hi1
        refine wpOp_go rfl rfl (fun K hK => ?_)
        refine wp_append_own _ _ _ 26 rfl (w2.heap.size + 1) 55 i0 _ 4 40 Tryd.underlying26 hi hz0 hz1 hz2 rfl (by decide) _ _ _ rfl hownA ⟨W.heap.size, 0, none⟩ 1 1 (lnL x) rfl rfl hnew (encLn.one x) (by unfold maxLen; omega) (by omega) hgA ?_
        intro v9 w9 own9 hg9 _
        have hsh : ∃ A c, v9 = .slice A (k + 1) c := by
          rcases own9 with ⟨_, ⟨h, h0⟩ | ⟨g', cap, cur, h, _⟩⟩
          · omega
          · exact ⟨_, _, h⟩
        obtain ⟨Av, cv, rfl⟩ := hsh
        have hb9 : Below (w2.heap.size + 1) WA w9 := (Below.refl _ WA).grown hg9 hgA (fun s e => (hownA.lt s e).1)
        have bG9 : Blk w9 w2.heap.size 28 #[.string f.cus, .int .i64 f.d, .string f.cur, v] := bGa.below hb9 (Nat.lt_succ_self _)
        have hW9 : Below w2.heap.size w2 w9 := hWA.trans (hb9.mono (Nat.le_succ _))
        have hS9 : w9.cell? ⟨w.heap.size + 1, 3, none⟩ = some (.slice (some ⟨bx, ox, none⟩) n f.k) ∧ w9.rangeAt bx (ox + p * 4) (lnL x) := ⟨(hb9.cell (p := ⟨w.heap.size + 1, 3, none⟩) (by show w.heap.size + 1 < _; omega)).trans hS1.1, fun i u h => (hb9.cell (p := ⟨bx, ox + p * 4 + i, none⟩) (by show bx < _; omega)).trans (hS1.2 i u h)⟩
        refine hK _ _ ⟨hS9, ?_⟩
        clear hK K hS1 hnew hownA bGa hWA hg9 hb9
        have c9 := bG9.cell 3
        have z9 := bG9.frozen 3
        refine wpAnyH_all (rs := [14]) (by decide +kernel) (by simp) ?_
        intro i1 hi1
        obtain rfl := List.mem_singleton.1 hi1
        refine wpOp_go rfl rfl (fun K hK => ?_)
        go_simp
        refine hK _ _ ⟨hS9, ?_⟩
        clear hK K
        refine wpAnyH_all (rs := [15]) (by decide +kernel) (by simp) ?_
        intro i1 hi1
        obtain rfl := List.mem_singleton.1 hi1
        have hbS : Below w2.heap.size w9 (w9.setCell ⟨w2.heap.size, 3, none⟩ (.slice Av (k + 1) cv)) := (Only.setCell w2.heap.size w9 3 _).below (Nat.le_refl _)
        have hS10 : (w9.setCell ⟨w2.heap.size, 3, none⟩ (.slice Av (k + 1) cv)).cell? ⟨w.heap.size + 1, 3, none⟩ = some (.slice (some ⟨bx, ox, none⟩) n f.k) ∧ (w9.setCell ⟨w2.heap.size, 3, none⟩ (.slice Av (k + 1) cv)).rangeAt bx (ox + p * 4) (lnL x) := ⟨(hbS.cell (p := ⟨w.heap.size + 1, 3, none⟩) hFl2).trans hS9.1, fun i u h => (hbS.cell (p := ⟨bx, ox + p * 4 + i, none⟩) hbx2).trans (hS9.2 i u h)⟩
        refine wpOp_go rfl rfl (fun K hK => ?_)
        go_simp
        refine hK _ _ ⟨hS10, ?_⟩
        clear hK K
        have bG10 : Blk (w9.setCell ⟨w2.heap.size, 3, none⟩ (.slice Av (k + 1) cv)) w2.heap.size 28 #[.string f.cus, .int .i64 f.d, .string f.cur, .slice Av (k + 1) cv] := bG9.set_ 3 (.slice Av (k + 1) cv)
        have own10 := ownsRow_setCell_below own9 (a := ⟨w2.heap.size, 3, none⟩) (Nat.lt_succ_self _) (.slice Av (k + 1) cv)
        have hW10 := hW9.trans hbS
        refine wpAnyH_done (by decide +kernel) ?_ _
        clear hS10 hS9 c9 z9 bG9 own9 hW9 hbS
        generalize w9.setCell ⟨w2.heap.size, 3, none⟩ (.slice Av (k + 1) cv) = w10 at *
        go_wp2
        go_roundw
        case rel => exact ⟨k + 1, .slice Av (k + 1) cv, by omega, by go_num, bG10, by rw [Pl.tab_succ, flt_append, flt_one, HE1.out]; exact own10, hW10⟩
        case measure => simp [intOf]; omega
    · obtain rfl : k = n := by omega
      have hrot : Pl.rot f.ls z = Pl.tab (fun i => f.ls.getD ((i + z) % k) default) k := by unfold Pl.rot; rw [HN.out]
      have hownR : wo.ownsRow (w2.heap.size + 1) 55 4 v (Pl.rot f.ls z).length (flt lnL (Pl.rot f.ls z)) := by rw [Pl.rot_len, HN.out, hrot]; exact hown
      obtain ⟨A9, c9, rfl, hr9, hc9, hm9⟩ := rows_of_owns encLn hownR
      rw [Pl.rot_len, HN.out] at bG
      have HGI : Hid (FmIn wo (Pl.turned f z A9 c9)) := Lib.hid ⟨hr9, hc9, hm9, fun y hy => HF.out.each y (Pl.mem_rot.1 hy), HF.out.cus, HF.out.cur⟩
      have hBo := HB2.out.trans (hW.mono HB2.out.size)
      have hb3 := HF2.out.below hW hFl2
      have bM3 := HM2.out.below hW hMl2
      have q3 := hb3.range
      have m0 := bM3.cell 0
      have m1 := bM3.cell 1
      have HGB := Lib.hid bG
      have hgl := bG.lt
      have HMB := Lib.hid bM3
      have hml := bM3.lt
      have HW := Lib.hid hW
      clear hown hownR hr9 hrot bG hW hb3 bM3
      go_wp2_with (refine ldm_fm (s := f) q3 rfl _ rfl rfl ?_)
      refine (H1.out wo hBo).mono ?_
      rintro e w4 ⟨v4, rfl, ho4, hb4⟩
      obtain ⟨A4, c4, rfl, hr4, _, _⟩ := rows_of_owns encIn ho4
      have hB4 := hBo.trans (hb4.mono hBo.size)
      have bM4 := HMB.out.below hb4 hml
      have n0 := bM4.cell 0
      have n1 := bM4.cell 1
      have bG4 := HGB.out.below hb4 hgl
      have e9 : (Pl.rot f.ls z).length = k := by rw [Pl.rot_len, HN.out]
      have qg : w4.rangeAt w2.heap.size 0 (fmL (Pl.turned f z A9 c9)) := by
        show w4.rangeAt w2.heap.size 0 [.string f.cus, .int .i64 f.d, .string f.cur, .slice A9 (Pl.rot f.ls z).length c9]
        rw [e9]
        exact bG4.range
      have HR4 := Lib.hid hr4
      have HGI4 := Lib.hid (HGI.out.below hb4)
      clear m0 m1 q3 ho4 hr4 hb4 bM4 bG4 e9
      go_wp2_with (refine ldm_fm (s := Pl.turned f z A9 c9) qg rfl _ rfl rfl ?_)
      refine (H2.out w4 (Pl.turned f z A9 c9) hB4 HGI4.out).mono ?_
      rintro e w5 ⟨v5, rfl, ho5, hb5⟩
      obtain ⟨A5, c5, rfl, hr5, _, _⟩ := rows_of_owns encIn ho5
      have hB5 := hB4.trans (hb5.mono hB4.size)
      have HR5 := Lib.hid hr5
      have HR45 := Lib.hid (HR4.out.below hb5)
      have hp0 : 0 < f.ls.length := by rw [HN.out]; omega
      have hiff := Pl.iv_turned (l := l) (r := r) (f := f) (z := z) (A := A9) (k := c9) hp0
      clear n0 n1 qg ho5 hr5 hb5 HR4 HGI4 HGI HGB HMB H1 H2
      by_cases hE : Pl.ivE l r f = 0
      rotate_left
      · have hE2 : Pl.ivE l r (Pl.turned f z A9 c9) ≠ 0 := fun h => hE (hiff.1 h)
        have l1 : (Pl.ivV l r f).length = 0 := by rw [ivV_no hE]; rfl
        have l2 : (Pl.ivV l r (Pl.turned f z A9 c9)).length = 0 := by rw [ivV_no hE2]; rfl
        rw [l1, l2]
        clear l1 l2 hiff HR5 HR45
        generalize Pl.ivE l r (Pl.turned f z A9 c9) = E2 at *
        generalize Pl.ivE l r f = E1 at *
        have d1 : (E1 == 0) = false := by simpa using hE
        have d2 : (E2 == 0) = false := by simpa using hE2
        go_wp2_with fail
        refine (HC.out _).mono ?_
        rintro e w6 ⟨rfl, hb6⟩
        have hB6 := hB5.trans (hb6.mono hB5.size)
        go_wp2
        go_ret
        exact ⟨rfl, hB6⟩
      have hE2 := hiff.2 hE
      have hck := Pl.ck_ok (Pl.ivE_iff.1 hE).1
      have hSS := Pl.ivS_turned (l := l) (r := r) (f := f) (z := z) (A := A9) (k := c9) hp0 hE
      have l1 : (Pl.ivV l r f).length = k := by rw [show Pl.ivV l r f = Pl.tab (Pl.lnV l r f) f.ls.length from if_pos hE, Pl.tab_len, HN.out]
      have l2 : (Pl.ivV l r (Pl.turned f z A9 c9)).length = k := by
        rw [show Pl.ivV l r (Pl.turned f z A9 c9) = Pl.tab (Pl.lnV l r (Pl.turned f z A9 c9)) (Pl.rot f.ls z).length from if_pos hE2, Pl.tab_len, Pl.rot_len, HN.out]
      have HS1 : Hid (Pl.ivS l r f = Pl.sm (Pl.lnV l r f) k) := Lib.hid (by rw [← HN.out]; exact if_pos hE)
      have HT1 : Hid (∀ i (hi : i < (Pl.ivV l r f).length), (Pl.ivV l r f)[i] = Pl.lnV l r f i) := Lib.hid (fun i hi => by
        have e : Pl.ivV l r f = Pl.tab (Pl.lnV l r f) f.ls.length := if_pos hE
        simp only [e]
        exact Pl.tab_get _ _)
      have HT2 : Hid (∀ i (hi : i < (Pl.ivV l r (Pl.turned f z A9 c9)).length), (Pl.ivV l r (Pl.turned f z A9 c9))[i] = Pl.lnV l r f ((i + z) % k)) := Lib.hid (fun i hi => by
        have e : Pl.ivV l r (Pl.turned f z A9 c9) = Pl.tab (Pl.lnV l r (Pl.turned f z A9 c9)) (Pl.rot f.ls z).length := if_pos hE2
        have hik : i < f.ls.length := by rw [HN.out]; omega
        simp only [e]
        rw [Pl.tab_get, (Pl.ln_turned hp0 hik).2, HN.out])
      have HSU : Hid (∀ i, i ≤ k → -50000000000000 ≤ Pl.sm (Pl.lnV l r f) i ∧ Pl.sm (Pl.lnV l r f) i ≤ 50000000000000) := Lib.hid (fun i hi => Pl.lnV_sum hck (by rw [HN.out]; exact hi))
      rw [hE, hE2, hSS, l1, l2]
      have HL1 := Lib.hid l1
      have HL2 := Lib.hid l2
      generalize Pl.ivV l r (Pl.turned f z A9 c9) = T2 at *
      generalize Pl.ivV l r f = T1 at *
      generalize Pl.ivS l r f = S at *
      have HB5 := Lib.hid hB5
      clear hE hE2 hck hSS l1 l2 hiff hp0 hB5
      go_wp2
      go_loopw [16, 17] (fun t i wr => ∃ q : Nat, q ≤ k ∧ i = .int .i64 q ∧ t = .int .i64 (Pl.sm (Pl.lnV l r f) q) ∧ Below w5.heap.size w5 wr) (fun _ i _ => k - (intOf i).toNat)
      case atStart => exact ⟨0, Nat.zero_le _, rfl, rfl, Below.refl _ _⟩
      case round =>
        obtain ⟨q, hq, rfl, rfl, hW⟩ := hrel
        obtain ⟨wl, rfl⟩ : ∃ wl, wl = wr := ⟨_, rfl⟩
        by_cases hlq : q < k
        · have hlqI : (q : Int) < (k : Int) := by omega
          obtain ⟨p, hp⟩ : ∃ p, (q + z) % k = p := ⟨_, rfl⟩
          have hpn : p < k := by rw [← hp]; exact Nat.mod_lt _ (by omega)
          have hpI : (p : Int) < (k : Int) := by omega
          have hq1 : q < T1.length := by rw [HL1.out]; exact hlq
          have hq2 : q < T2.length := by rw [HL2.out]; exact hlq
          have hp1 : p < T1.length := by rw [HL1.out]; exact hpn
          obtain ⟨b1, o1, rfl, hb1, hc1⟩ := HR45.out.open (by omega)
          obtain ⟨b2, o2, rfl, hb2, hc2⟩ := HR5.out.open (by omega)
          have u0 := row_cell (mk := Value.int .i64) hb1 hc1 hW hq1
          have u1 := row_cell (mk := Value.int .i64) hb1 hc1 hW hp1
          have u2 := row_cell (mk := Value.int .i64) hb2 hc2 hW hq2
          rw [HT1.out q hq1] at u0
          rw [HT1.out p hp1] at u1
          rw [HT2.out q hq2, hp] at u2
          have e1 : Pl.sm (Pl.lnV l r f) (q + 1) = Pl.sm (Pl.lnV l r f) q + Pl.lnV l r f q := rfl
          have s1 := HSU.out (q + 1) (by omega)
          rw [e1] at s1
          have HE1 := Lib.hid e1
          clear hc1 hc2 e1
          generalize Pl.sm (Pl.lnV l r f) q = t0 at *
          generalize Pl.lnV l r f q = y at *
          generalize Pl.lnV l r f p = x at *
          have ks : IntKind.i64.wrap (t0 + y) = t0 + y := IntWalk.i64_in _ (by omega)
          have kw : IntKind.i64.wrap ((q : Int) + (z : Int)) = (q : Int) + (z : Int) := IntWalk.i64_in _ (by omega)
          have kz : IntKind.i64.wrap (z : Int) = z := IntWalk.i64_in _ (by omega)
          have kp : ((q : Int) + (z : Int)).tmod (k : Int) = (p : Int) := by rw [← hp]; rfl
          have z0 := fun s : Ext wl => s.cell (p := ⟨b1, o1 + q, none⟩) u0
          have z1 := fun s : Ext wl => s.cell (p := ⟨b1, o1 + p, none⟩) u1
          have z2 := fun s : Ext wl => s.cell (p := ⟨b2, o2 + q, none⟩) u2
          have hkz : ((k : Int) == 0) = false := hn0
          clear u0 u1 u2 s1 hp
          go_wp2
          refine wp_region_ext (by kernel_rfl) (by kernel_rfl) ?_
          repeat (go_big_quiet_step (fail))
          refine wpQuiet_nil ?_
          rintro _ ⟨s, rfl⟩
          have hV2 := hW.trans (s.h.mono hW.size)
          have y0 := z0 s
          generalize s.w = w7 at *
          go_wp2
          go_roundw
          case rel => exact ⟨q + 1, by omega, by go_num, by rw [HE1.out], hV2⟩
          case measure => simp [intOf]; omega
        · obtain rfl : q = k := by omega
          have hBl := HB5.out.trans (hW.mono HB5.out.size)
          rw [← HS1.out]
          go_wp2_with fail
          refine (HC.out _).mono ?_
          rintro e w8 ⟨rfl, hb8⟩
          have hB8 := hBl.trans (hb8.mono hBl.size)
          go_wp2
          go_ret
          exact ⟨rfl, hB8⟩
end Go.Proofs.YtdihnbjmeppbcaaDoor
