/- LastSteps. -/
import Derived.Test.YtghbipipehglfaaA15
import Derived.Test.YtghbipipehglfaaA17
import Derived.Test.YtghbipipehglfaaA6
import Derived.Test.YtghbipipehglfaaA13
import Derived.IntWalk
namespace Go.Proofs.Ytghbipipehglfaa
open Go.RowKit Go.Shelf

theorem st_head {ops : Array Oper} {rest : List Oper} {o : Oper} {a : Act} {w : World} {Q : Exit → Act → World → Prop} {old : Array Value} {s : Pl.Hd} {g : Nat} {t : TypeId} (b : Blk w g t old) (hs : old.size = 6) (hgd : o.guard = none) (x y : Operand) (ho : o.op = .store 26 x y)
    (hx : a.eval x = .pointer (some ⟨g, 0, none⟩)) (hy : a.eval y = .agg (hdA s))
    (h : ∀ w', Blk w' g t (hdA s) → Only g w w' → wpList Try.prog ops Q rest (a.put o.dst undef) w') : wpList Try.prog ops Q (o :: rest) a w :=
  st_row b hgd x y ho hx hy info26 hs (hdA_one s) h
theorem hdA_ms (h : Pl.Hd) {k : Nat} (hk : k < 5) (v : Int) : (hdA h).setIfInBounds (1 + k) (.int .i64 v) = hdA { h with m := fun i => if i = k then v else h.m i } :=
  five (p := fun k => (hdA h).setIfInBounds (1 + k) (.int .i64 v) = hdA { h with m := fun i => if i = k then v else h.m i }) hk rfl rfl rfl rfl rfl
theorem hdA_ext {g h : Pl.Hd} (h1 : g.num = h.num) (h2 : ∀ i, i < 5 → g.m i = h.m i) : hdA g = hdA h := by
  simp only [hdA, h1, h2 0 (by omega), h2 1 (by omega), h2 2 (by omega), h2 3 (by omega), h2 4 (by omega)]
/-- the head when k measures have grown -/
def hmid (h : Pl.Hd) (f : Nat → Int) (k : Nat) : Pl.Hd := { h with m := fun i => if i < k then f i else h.m i }
theorem hmid_at (h : Pl.Hd) (f : Nat → Int) (k : Nat) : (hmid h f k).m k = h.m k := if_neg (by omega)
theorem hmid_step (h : Pl.Hd) (f : Nat → Int) {k : Nat} (hk : k < 5) : (hdA (hmid h f k)).setIfInBounds (1 + k) (.int .i64 (f k)) = hdA (hmid h f (k + 1)) := by
  rw [hdA_ms _ hk]
  refine hdA_ext rfl fun i _ => ?_
  show (if i = k then _ else if i < k then _ else _) = if i < k + 1 then _ else _
  by_cases e : i = k
  · rw [if_pos e, if_pos (by omega), e]
  · rw [if_neg e]
    by_cases e2 : i < k
    · rw [if_pos e2, if_pos (by omega)]
    · rw [if_neg e2, if_neg (by omega)]
/-- the head that has grown, as the machine counts -/
def wgrow (h : Pl.Hd) (st : Nat → Int) (m : Int) : Pl.Hd := { h with m := fun i => wrap64 (h.m i + m * st i) }
theorem hmid_all (h : Pl.Hd) (st : Nat → Int) (m : Int) : hdA (hmid h (fun i => wrap64 (h.m i + m * st i)) 5) = hdA (wgrow h st m) := hdA_ext rfl fun _ hi => if_pos hi

theorem gE_three (s : Pl.Sz) (st : Nat → Int) (n : Int) : Pl.gE s st n = 0 ∨ Pl.gE s st n = 2 ∨ Pl.gE s st n = 31 := by
  unfold Pl.gE; split
  · split
    · exact .inl rfl
    · exact .inr (.inl rfl)
  · exact .inr (.inr rfl)

theorem fitV_okS {s : Pl.Sz} {h : Pl.Hd} (hc : Pl.cp s h = 0) : fitV s h = Pl.fit s h := if_pos hc
theorem grown_ok (s : Pl.Sz) (h : Pl.Hd) (st : Nat → Int) (m : Int) (m1 : -20 ≤ m) (m2 : m ≤ 20) (hst : ∀ k, k < 5 → -300 ≤ st k ∧ st k ≤ 300) :
    ∃ G : Pl.Hd, hdA (wgrow h st m) = hdA G ∧ (Pl.cp s h = 0 → Pl.cp (Pl.grd s st m) G = 0 → fitV (Pl.grd s st m) G = fitV s h) := by
  by_cases hc : Pl.cp s h = 0
  · refine ⟨Pl.grow h st m, hdA_ext rfl fun i hi => ?_, fun _ hg => ?_⟩
    · have h1 := (Pl.vh_true.1 (Pl.cp_ok.1 hc).2).1 i hi
      have h2 := hst i hi
      obtain ⟨p1, p2⟩ := mul_bd (a := m) (b := st i) (A := 20) (B := 300) (by omega) (by omega) (by omega) (by omega)
      show wrap64 (h.m i + m * st i) = h.m i + m * st i
      unfold wrap64
      omega
    · rw [fitV_okS hg, fitV_okS hc]
      exact Pl.fit_grown s h st m
  · exact ⟨wgrow h st m, rfl, fun h => absurd h hc⟩

/-- the beginning: the boxes -/
theorem steps_boxes (s : Pl.Sz) (h : Pl.Hd) (st : Nat → Int) (w : World) : ∃ W, W = ((w.alloc (.cells (szA s) 24)).alloc (.cells (hdA h) 26)).alloc (.cells (a5A st) 22) ∧
    Below w.heap.size w W ∧ Blk W w.heap.size 24 (szA s) ∧ Blk W (w.heap.size + 1) 26 (hdA h) ∧ Blk W (w.heap.size + 1 + 1) 22 (a5A st) := by
  refine ⟨_, rfl, (((Below.refl w.heap.size w).alloc (Nat.le_refl _) _).alloc (by simp) _).alloc (by simp; omega) _, ((Blk.new w 24 (szA s)).alloc _).alloc _, ?_, ?_⟩
  · have := (Blk.new (w.alloc (.cells (szA s) 24)) 26 (hdA h)).alloc (.cells (a5A st) 22)
    rwa [World.size_alloc] at this
  · have := Blk.new ((w.alloc (.cells (szA s) 24)).alloc (.cells (hdA h) 26)) 22 (a5A st)
    simpa using this

set_option maxRecDepth 100000 in
set_option maxHeartbeats 4000000 in
theorem steps_no (s : Pl.Sz) (h : Pl.Hd) (st : Nat → Int) (m n : Int) (he : Pl.gE s st m = 2 ∨ Pl.gE s st m = 31) (w : World) :
    Calls Try.prog 8 #[.agg (szA s), .agg (hdA h), .agg (a5A st), .int .i64 m, .int .i64 n] w fun e w' => e = .returned (.bool true) ∧ Below w.heap.size w w' := by
  have HG := Lib.hid (dgrade_any s st m)
  obtain ⟨W, hW, hB, bS, bH, bT⟩ := steps_boxes s h st w
  rw [hW] at hB bS bH bT
  clear hW
  generalize Pl.gV s st m = a at *
  rcases he with e | e
  all_goals
    rw [e] at HG
    clear e
    go_enter Try.func8, Try.ntmps8
    go_wp2_with (first | refine ld_size (by assumption) rfl _ rfl rfl ?_ | refine ld_five (by assumption) rfl _ rfl rfl ?_)
    refine (HG.out _).mono ?_
    rintro e w1 ⟨rfl, hb1⟩
    have hB1 := (hB.trans (hb1.mono hB.size)).alloc (by have := (hB.trans (hb1.mono hB.size)).size; exact this) (.cells (szA Pl.zsz) 24)
    have bA := Blk.new w1 24 (szA Pl.zsz)
    have hz1 : w.heap.size ≤ w1.heap.size := (hB.trans (hb1.mono hB.size)).size
    clear bS bH bT hb1 hB
    go_wp2_with (refine st_size (s := a) bA rfl rfl _ _ rfl rfl rfl ?_; intro w2 bA2 hO; have hB2 := hB1.trans (hO.below (B := w.heap.size) hz1); clear hO hB1 bA)
    refine (awake_any _).mono ?_
    rintro e wa ⟨rfl, hba⟩
    go_wp2
    go_ret
    exact ⟨rfl, hB2.trans (hba.mono hB2.size)⟩

set_option maxRecDepth 100000 in
set_option maxHeartbeats 8000000 in
theorem steps_yes (s : Pl.Sz) (h : Pl.Hd) (st : Nat → Int) (m n : Int) (he : Pl.gE s st m = 0) (w : World) :
    Calls Try.prog 8 #[.agg (szA s), .agg (hdA h), .agg (a5A st), .int .i64 m, .int .i64 n] w fun e w' => e = .returned (.bool true) ∧ Below w.heap.size w w' := by
  have HG := Lib.hid (dgrade_any s st m)
  rw [Pl.gV_ok he, he] at HG
  obtain ⟨hs, hm, hst, hgs⟩ := Pl.gE_ok.1 he
  obtain ⟨m1, m2⟩ := Pl.inB_true.1 hm
  have hst' : ∀ k, k < 5 → -300 ≤ st k ∧ st k ≤ 300 := fun k hk => Pl.inB_true.1 (Pl.allK_true.1 hst k hk)
  have HST := Lib.hid hst'
  have HS := Lib.hid hs
  have HGS := Lib.hid hgs
  have hG2 := dgrade_any (Pl.grd s st m) st n
  have hG3 := dgrade_any s st (m + n)
  have hbc : Pl.gE (Pl.grd s st m) st n = 0 → Pl.gE s st (m + n) = 0 → Pl.gV (Pl.grd s st m) st n = Pl.gV s st (m + n) := fun h1 h2 => by
    rw [Pl.gV_ok h1, Pl.gV_ok h2, Pl.grd_grd]
  generalize Pl.gE (Pl.grd s st m) st n = f at *
  generalize Pl.gE s st (m + n) = g at *
  generalize Pl.gV (Pl.grd s st m) st n = b at *
  generalize Pl.gV s st (m + n) = c at *
  have HG2 := Lib.hid hG2
  have HG3 := Lib.hid hG3
  have hfg : ((f == 0) = false ∧ (f != 0) = true) ∨ (f = 0 ∧ (g == 0) = false ∧ (g != 0) = true) ∨ (f = 0 ∧ g = 0 ∧ b = c) := by
    by_cases e1 : f = 0
    · by_cases e2 : g = 0
      · exact .inr (.inr ⟨e1, e2, hbc e1 e2⟩)
      · exact .inr (.inl ⟨e1, by simp [e2], by simp [e2]⟩)
    · exact .inl ⟨by simp [e1], by simp [e1]⟩
  obtain ⟨G, hG, hfit⟩ := grown_ok s h st m m1 m2 hst'
  have HF1 := Lib.hid (dfits_any s h)
  have HF2 := Lib.hid (dfits_any (Pl.grd s st m) G)
  generalize Pl.cp s h = e1 at *
  generalize Pl.cp (Pl.grd s st m) G = e2 at *
  generalize fitV s h = x at *
  generalize fitV (Pl.grd s st m) G = y at *
  have HFIT : Hid (((e1 == 0) = false ∧ (e1 != 0) = true) ∨ (e1 = 0 ∧ (e2 == 0) = false ∧ (e2 != 0) = true) ∨ (e1 = 0 ∧ e2 = 0 ∧ y = x)) := Lib.hid (by
    by_cases q1 : e1 = 0
    · by_cases q2 : e2 = 0
      · exact .inr (.inr ⟨q1, q2, hfit q1 q2⟩)
      · exact .inr (.inl ⟨q1, by simp [q2], by simp [q2]⟩)
    · exact .inl ⟨by simp [q1], by simp [q1]⟩)
  have HGG := Lib.hid hG
  clear he hs hm hst hgs hst' hG2 hG3 hbc hG hfit
  obtain ⟨W, hW, hB, bS, bH, bT⟩ := steps_boxes s h st w
  rw [hW] at hB bS bH bT
  clear hW
  have hT := bT.lt
  go_enter Try.func8, Try.ntmps8
  go_wp2_with (first | refine ld_size (by assumption) rfl _ rfl rfl ?_ | refine ld_five (by assumption) rfl _ rfl rfl ?_)
  refine (HG.out _).mono ?_
  rintro e w1 ⟨rfl, hb1⟩
  have hB1 := (hB.trans (hb1.mono hB.size)).alloc (by have := (hB.trans (hb1.mono hB.size)).size; exact this) (.cells (szA Pl.zsz) 24)
  have bS1 := (bS.below hb1 bS.lt).alloc (.cells (szA Pl.zsz) 24)
  have bH1 := (bH.below hb1 bH.lt).alloc (.cells (szA Pl.zsz) 24)
  have bT1 := (bT.below hb1 bT.lt).alloc (.cells (szA Pl.zsz) 24)
  have bA := Blk.new w1 24 (szA Pl.zsz)
  have hz1 : w.heap.size + 1 + 1 < w1.heap.size := Nat.lt_of_lt_of_le hT hb1.size
  clear bS bH bT hb1 hB hT
  have HFG := Lib.hid hfg
  clear hfg
  by_cases hout : n < -20 ∨ 20 < n
  · clear bS1 bH1 bT1
    rcases hout with hn | hn
    · go_wp2_with (refine st_size (s := Pl.grd s st m) bA rfl rfl _ _ rfl rfl rfl ?_; intro w2 bA2 hO; have hB2 := hB1.trans (hO.below (B := w.heap.size) (by omega)); clear hO hB1 bA)
      refine (awake_any _).mono ?_
      rintro e wa ⟨rfl, hba⟩
      go_wp2
      go_ret
      exact ⟨rfl, hB2.trans (hba.mono hB2.size)⟩
    · have hn' : ¬ n < -20 := by omega
      go_wp2_with (refine st_size (s := Pl.grd s st m) bA rfl rfl _ _ rfl rfl rfl ?_; intro w2 bA2 hO; have hB2 := hB1.trans (hO.below (B := w.heap.size) (by omega)); clear hO hB1 bA)
      refine (awake_any _).mono ?_
      rintro e wa ⟨rfl, hba⟩
      go_wp2
      go_ret
      exact ⟨rfl, hB2.trans (hba.mono hB2.size)⟩
  · have n1 : -20 ≤ n := by omega
    have n2 : n ≤ 20 := by omega
    clear hout
    go_wp2_with (first | (refine st_size (s := Pl.grd s st m) bA rfl rfl _ _ rfl rfl rfl ?_; intro w2 bA2 hO; have bS2 := bS1.only hO (by omega); have bH2 := bH1.only hO (by omega); have bT2 := bT1.only hO (by omega); have hB2 := hB1.trans (hO.below (B := w.heap.size) (by omega)); clear hO hB1 bA bS1 bH1 bT1) | refine ld_size (by assumption) rfl _ rfl rfl ?_ | refine ld_five (by assumption) rfl _ rfl rfl ?_)
    refine (HG2.out _).mono ?_
    rintro e w3 ⟨rfl, hb3⟩
    have hB3 := (hB2.trans (hb3.mono hB2.size)).alloc (by have := (hB2.trans (hb3.mono hB2.size)).size; exact this) (.cells (szA Pl.zsz) 24)
    have bS3 := (bS2.below hb3 bS2.lt).alloc (.cells (szA Pl.zsz) 24)
    have bH3 := (bH2.below hb3 bH2.lt).alloc (.cells (szA Pl.zsz) 24)
    have bT3 := (bT2.below hb3 bT2.lt).alloc (.cells (szA Pl.zsz) 24)
    have bA3 := (bA2.below hb3 bA2.lt).alloc (.cells (szA Pl.zsz) 24)
    have bB3 := Blk.new w3 24 (szA Pl.zsz)
    have hz3 : w1.heap.size < w3.heap.size := Nat.lt_of_lt_of_le bA2.lt hb3.size
    clear bS2 bH2 bT2 bA2 hb3 hB2
    go_wp2_with (first | (refine st_size (s := b) bB3 rfl rfl _ _ rfl rfl rfl ?_; intro w4 bB4 hO; have bS4 := bS3.only hO (by omega); have bH4 := bH3.only hO (by omega); have bT4 := bT3.only hO (by omega); have bA4 := bA3.only hO (by omega); have hB4 := hB3.trans (hO.below (B := w.heap.size) (by omega)); clear hO hB3 bA3 bS3 bH3 bT3 bB3) | refine ld_size (by assumption) rfl _ rfl rfl ?_ | refine ld_five (by assumption) rfl _ rfl rfl ?_)
    refine (HG3.out _).mono ?_
    rintro e w5 ⟨rfl, hb5⟩
    have hB5 := (hB4.trans (hb5.mono hB4.size)).alloc (by have := (hB4.trans (hb5.mono hB4.size)).size; exact this) (.cells (szA Pl.zsz) 24)
    have bS5 := (bS4.below hb5 bS4.lt).alloc (.cells (szA Pl.zsz) 24)
    have bH5 := (bH4.below hb5 bH4.lt).alloc (.cells (szA Pl.zsz) 24)
    have bT5 := (bT4.below hb5 bT4.lt).alloc (.cells (szA Pl.zsz) 24)
    have bA5 := (bA4.below hb5 bA4.lt).alloc (.cells (szA Pl.zsz) 24)
    have bB5 := (bB4.below hb5 bB4.lt).alloc (.cells (szA Pl.zsz) 24)
    have bC5 := Blk.new w5 24 (szA Pl.zsz)
    have hz5 : w3.heap.size < w5.heap.size := Nat.lt_of_lt_of_le bB4.lt hb5.size
    clear bS4 bH4 bT4 bA4 bB4 hb5 hB4
    have heq := fun w => run_eq24 b w
    have heq2 := heq
    simp only [szA] at heq2
    rcases HFG.out with ⟨f1, f2⟩ | ⟨rfl, f1, f2⟩ | ⟨rfl, rfl, rfl⟩
    · as_aux_lemma =>
      go_wp2_with (first | (refine st_size bC5 rfl rfl _ _ rfl rfl rfl ?_; intro w6 bC6 hO; have bS6 := bS5.only hO (by omega); have bH6 := bH5.only hO (by omega); have bT6 := bT5.only hO (by omega); have bA6 := bA5.only hO (by omega); have bB6 := bB5.only hO (by omega); have hB6 := hB5.trans (hO.below (B := w.heap.size) (by omega)); clear hO hB5 bA5 bS5 bH5 bT5 bB5 bC5) | refine ld_size (by assumption) rfl _ rfl rfl ?_ | refine ld_five (by assumption) rfl _ rfl rfl ?_ | refine ld_head (by assumption) rfl _ rfl rfl ?_)
      clear heq heq2
      refine (HF1.out _).mono ?_
      rintro e w7 ⟨rfl, hb7⟩
      have hB7 := (hB6.trans (hb7.mono hB6.size)).alloc (by have := (hB6.trans (hb7.mono hB6.size)).size; exact this) (.cells (hdA ⟨0, fun _ => 0⟩) 26)
      have bH7 := bH6.below hb7 bH6.lt
      have bT7 := (bT6.below hb7 bT6.lt).alloc (.cells (hdA ⟨0, fun _ => 0⟩) 26)
      have bA7 := (bA6.below hb7 bA6.lt).alloc (.cells (hdA ⟨0, fun _ => 0⟩) 26)
      have bD7 := Blk.new w7 26 (hdA ⟨0, fun _ => 0⟩)
      have hz7 : w5.heap.size < w7.heap.size := Nat.lt_of_lt_of_le bC6.lt hb7.size
      clear bS6 bH6 bT6 bA6 bB6 bC6 hb7 hB6
      go_wp2_with (first | refine ld_head bH7 rfl _ rfl rfl ?_ | (refine st_head (s := h) bD7 rfl rfl _ _ rfl rfl rfl ?_; intro w8 bD8 hO; have bT8 := bT7.only hO (by omega); have bA8 := bA7.only hO (by omega); have hB8 := hB7.trans (hO.below (B := w.heap.size) (by omega)); clear hO hB7 bT7 bA7 bD7 bH7))
      generalize w7.heap.size = S at *
      generalize w1.heap.size = SA at *
      go_loopw [19, 73] (fun _ i wr => ∃ k : Nat, k ≤ 5 ∧ i = .int .i64 k ∧ Blk wr (w.heap.size + 1 + 1) 22 (a5A st) ∧ Blk wr SA 24 (szA (Pl.grd s st m)) ∧ Blk wr S 26 (hdA (hmid h (fun i => wrap64 (h.m i + m * st i)) k)) ∧ Below w.heap.size w wr) (fun _ i _ => 5 - (intOf i).toNat)
      case atStart => exact ⟨0, by omega, rfl, bT8, bA8, bD8, hB8⟩
      case round =>
        clear bT8 bA8 bD8 hB8
        obtain ⟨k, hk, rfl, bT, bA, bD, hB⟩ := hrel
        by_cases hlt : k < 5
        · have q1 := bT.at5 hlt
          have q2 := bD.ms hlt
          rw [hmid_at] at q2
          have r2 := bD.frozen (1 + k)
          obtain ⟨d1, d2⟩ := HST.out k hlt
          obtain ⟨p1, p2⟩ := mul_bd (a := m) (b := st k) (A := 20) (B := 300) (by omega) (by omega) (by omega) (by omega)
          have HBD := Lib.hid bD
          clear bD
          go_wp2
          go_region
          have bD2 := (HBD.out.set_ (1 + k) (.int .i64 (wrap64 (h.m k + m * st k)))).drew
          rw [hmid_step h (fun i => wrap64 (h.m i + m * st i)) hlt] at bD2
          have bT2 := (bT.far (p := ⟨S, 1 + k, none⟩) (by simp; omega) (.int .i64 (wrap64 (h.m k + m * st k)))).drew
          have bA2 := (bA.far (p := ⟨S, 1 + k, none⟩) (by simp; omega) (.int .i64 (wrap64 (h.m k + m * st k)))).drew
          have hB2 := (hB.setCell (p := ⟨S, 1 + k, none⟩) (by simp; omega) (.int .i64 (wrap64 (h.m k + m * st k)))).drew
          go_wp2
          go_roundw
          case rel => exact ⟨k + 1, by omega, by go_num, bT2, bA2, bD2, hB2⟩
          case measure => simp [intOf]; omega
        · obtain rfl : k = 5 := by omega
          rw [hmid_all, HGG.out] at bD
          clear bT
          go_wp2_with (first | refine ld_size bA rfl _ rfl rfl ?_ | refine ld_head bD rfl _ rfl rfl ?_)
          refine (HF2.out _).mono ?_
          rintro e w9 ⟨rfl, hb9⟩
          have hB9 := hB.trans (hb9.mono hB.size)
          clear bA bD hB hb9
          rcases HFIT.out with ⟨g1, g2⟩ | ⟨rfl, g1, g2⟩ | ⟨rfl, rfl, rfl⟩
          all_goals
            go_wp2_with fail
            refine (awake_any _).mono ?_
            rintro e wa ⟨rfl, hba⟩
            go_wp2
            go_ret
            exact ⟨rfl, hB9.trans (hba.mono hB9.size)⟩
    · as_aux_lemma =>
      go_wp2_with (first | (refine st_size bC5 rfl rfl _ _ rfl rfl rfl ?_; intro w6 bC6 hO; have bS6 := bS5.only hO (by omega); have bH6 := bH5.only hO (by omega); have bT6 := bT5.only hO (by omega); have bA6 := bA5.only hO (by omega); have bB6 := bB5.only hO (by omega); have hB6 := hB5.trans (hO.below (B := w.heap.size) (by omega)); clear hO hB5 bA5 bS5 bH5 bT5 bB5 bC5) | refine ld_size (by assumption) rfl _ rfl rfl ?_ | refine ld_five (by assumption) rfl _ rfl rfl ?_ | refine ld_head (by assumption) rfl _ rfl rfl ?_)
      clear heq heq2
      refine (HF1.out _).mono ?_
      rintro e w7 ⟨rfl, hb7⟩
      have hB7 := (hB6.trans (hb7.mono hB6.size)).alloc (by have := (hB6.trans (hb7.mono hB6.size)).size; exact this) (.cells (hdA ⟨0, fun _ => 0⟩) 26)
      have bH7 := bH6.below hb7 bH6.lt
      have bT7 := (bT6.below hb7 bT6.lt).alloc (.cells (hdA ⟨0, fun _ => 0⟩) 26)
      have bA7 := (bA6.below hb7 bA6.lt).alloc (.cells (hdA ⟨0, fun _ => 0⟩) 26)
      have bD7 := Blk.new w7 26 (hdA ⟨0, fun _ => 0⟩)
      have hz7 : w5.heap.size < w7.heap.size := Nat.lt_of_lt_of_le bC6.lt hb7.size
      clear bS6 bH6 bT6 bA6 bB6 bC6 hb7 hB6
      go_wp2_with (first | refine ld_head bH7 rfl _ rfl rfl ?_ | (refine st_head (s := h) bD7 rfl rfl _ _ rfl rfl rfl ?_; intro w8 bD8 hO; have bT8 := bT7.only hO (by omega); have bA8 := bA7.only hO (by omega); have hB8 := hB7.trans (hO.below (B := w.heap.size) (by omega)); clear hO hB7 bT7 bA7 bD7 bH7))
      generalize w7.heap.size = S at *
      generalize w1.heap.size = SA at *
      go_loopw [19, 73] (fun _ i wr => ∃ k : Nat, k ≤ 5 ∧ i = .int .i64 k ∧ Blk wr (w.heap.size + 1 + 1) 22 (a5A st) ∧ Blk wr SA 24 (szA (Pl.grd s st m)) ∧ Blk wr S 26 (hdA (hmid h (fun i => wrap64 (h.m i + m * st i)) k)) ∧ Below w.heap.size w wr) (fun _ i _ => 5 - (intOf i).toNat)
      case atStart => exact ⟨0, by omega, rfl, bT8, bA8, bD8, hB8⟩
      case round =>
        clear bT8 bA8 bD8 hB8
        obtain ⟨k, hk, rfl, bT, bA, bD, hB⟩ := hrel
        by_cases hlt : k < 5
        · have q1 := bT.at5 hlt
          have q2 := bD.ms hlt
          rw [hmid_at] at q2
          have r2 := bD.frozen (1 + k)
          obtain ⟨d1, d2⟩ := HST.out k hlt
          obtain ⟨p1, p2⟩ := mul_bd (a := m) (b := st k) (A := 20) (B := 300) (by omega) (by omega) (by omega) (by omega)
          have HBD := Lib.hid bD
          clear bD
          go_wp2
          go_region
          have bD2 := (HBD.out.set_ (1 + k) (.int .i64 (wrap64 (h.m k + m * st k)))).drew
          rw [hmid_step h (fun i => wrap64 (h.m i + m * st i)) hlt] at bD2
          have bT2 := (bT.far (p := ⟨S, 1 + k, none⟩) (by simp; omega) (.int .i64 (wrap64 (h.m k + m * st k)))).drew
          have bA2 := (bA.far (p := ⟨S, 1 + k, none⟩) (by simp; omega) (.int .i64 (wrap64 (h.m k + m * st k)))).drew
          have hB2 := (hB.setCell (p := ⟨S, 1 + k, none⟩) (by simp; omega) (.int .i64 (wrap64 (h.m k + m * st k)))).drew
          go_wp2
          go_roundw
          case rel => exact ⟨k + 1, by omega, by go_num, bT2, bA2, bD2, hB2⟩
          case measure => simp [intOf]; omega
        · obtain rfl : k = 5 := by omega
          rw [hmid_all, HGG.out] at bD
          clear bT
          go_wp2_with (first | refine ld_size bA rfl _ rfl rfl ?_ | refine ld_head bD rfl _ rfl rfl ?_)
          refine (HF2.out _).mono ?_
          rintro e w9 ⟨rfl, hb9⟩
          have hB9 := hB.trans (hb9.mono hB.size)
          clear bA bD hB hb9
          rcases HFIT.out with ⟨g1, g2⟩ | ⟨rfl, g1, g2⟩ | ⟨rfl, rfl, rfl⟩
          all_goals
            go_wp2_with fail
            refine (awake_any _).mono ?_
            rintro e wa ⟨rfl, hba⟩
            go_wp2
            go_ret
            exact ⟨rfl, hB9.trans (hba.mono hB9.size)⟩
    · as_aux_lemma =>
      go_wp2_with (first | (refine st_size bC5 rfl rfl _ _ rfl rfl rfl ?_; intro w6 bC6 hO; have bS6 := bS5.only hO (by omega); have bH6 := bH5.only hO (by omega); have bT6 := bT5.only hO (by omega); have bA6 := bA5.only hO (by omega); have bB6 := bB5.only hO (by omega); have hB6 := hB5.trans (hO.below (B := w.heap.size) (by omega)); clear hO hB5 bA5 bS5 bH5 bT5 bB5 bC5; have c0 := bB6.cell 0; have d0 := bC6.cell 0; have c1 := bB6.cell 1; have d1 := bC6.cell 1; have c2 := bB6.cell 2; have d2 := bC6.cell 2; have c3 := bB6.cell 3; have d3 := bC6.cell 3; have c4 := bB6.cell 4; have d4 := bC6.cell 4; have c5 := bB6.cell 5; have d5 := bC6.cell 5; have c6 := bB6.cell 6; have d6 := bC6.cell 6; have c7 := bB6.cell 7; have d7 := bC6.cell 7; have c8 := bB6.cell 8; have d8 := bC6.cell 8; have c9 := bB6.cell 9; have d9 := bC6.cell 9; have c10 := bB6.cell 10; have d10 := bC6.cell 10; have c11 := bB6.cell 11; have d11 := bC6.cell 11; have c12 := bB6.cell 12; have d12 := bC6.cell 12; have c13 := bB6.cell 13; have d13 := bC6.cell 13; have c14 := bB6.cell 14; have d14 := bC6.cell 14; have c15 := bB6.cell 15; have d15 := bC6.cell 15; have c16 := bB6.cell 16; have d16 := bC6.cell 16; simp only [szA, List.getElem?_toArray, List.getElem?_cons_zero, List.getElem?_cons_succ] at c0 d0 c1 d1 c2 d2 c3 d3 c4 d4 c5 d5 c6 d6 c7 d7 c8 d8 c9 d9 c10 d10 c11 d11 c12 d12 c13 d13 c14 d14 c15 d15 c16 d16) | refine ld_size (by assumption) rfl _ rfl rfl ?_ | refine ld_five (by assumption) rfl _ rfl rfl ?_ | refine ld_head (by assumption) rfl _ rfl rfl ?_)
      clear c0 d0 c1 d1 c2 d2 c3 d3 c4 d4 c5 d5 c6 d6 c7 d7 c8 d8 c9 d9 c10 d10 c11 d11 c12 d12 c13 d13 c14 d14 c15 d15 c16 d16
      clear heq heq2
      refine (HF1.out _).mono ?_
      rintro e w7 ⟨rfl, hb7⟩
      have hB7 := (hB6.trans (hb7.mono hB6.size)).alloc (by have := (hB6.trans (hb7.mono hB6.size)).size; exact this) (.cells (hdA ⟨0, fun _ => 0⟩) 26)
      have bH7 := bH6.below hb7 bH6.lt
      have bT7 := (bT6.below hb7 bT6.lt).alloc (.cells (hdA ⟨0, fun _ => 0⟩) 26)
      have bA7 := (bA6.below hb7 bA6.lt).alloc (.cells (hdA ⟨0, fun _ => 0⟩) 26)
      have bD7 := Blk.new w7 26 (hdA ⟨0, fun _ => 0⟩)
      have hz7 : w5.heap.size < w7.heap.size := Nat.lt_of_lt_of_le bC6.lt hb7.size
      clear bS6 bH6 bT6 bA6 bB6 bC6 hb7 hB6
      go_wp2_with (first | refine ld_head bH7 rfl _ rfl rfl ?_ | (refine st_head (s := h) bD7 rfl rfl _ _ rfl rfl rfl ?_; intro w8 bD8 hO; have bT8 := bT7.only hO (by omega); have bA8 := bA7.only hO (by omega); have hB8 := hB7.trans (hO.below (B := w.heap.size) (by omega)); clear hO hB7 bT7 bA7 bD7 bH7))
      generalize w7.heap.size = S at *
      generalize w1.heap.size = SA at *
      go_loopw [19, 73] (fun _ i wr => ∃ k : Nat, k ≤ 5 ∧ i = .int .i64 k ∧ Blk wr (w.heap.size + 1 + 1) 22 (a5A st) ∧ Blk wr SA 24 (szA (Pl.grd s st m)) ∧ Blk wr S 26 (hdA (hmid h (fun i => wrap64 (h.m i + m * st i)) k)) ∧ Below w.heap.size w wr) (fun _ i _ => 5 - (intOf i).toNat)
      case atStart => exact ⟨0, by omega, rfl, bT8, bA8, bD8, hB8⟩
      case round =>
        clear bT8 bA8 bD8 hB8
        obtain ⟨k, hk, rfl, bT, bA, bD, hB⟩ := hrel
        by_cases hlt : k < 5
        · have q1 := bT.at5 hlt
          have q2 := bD.ms hlt
          rw [hmid_at] at q2
          have r2 := bD.frozen (1 + k)
          obtain ⟨d1, d2⟩ := HST.out k hlt
          obtain ⟨p1, p2⟩ := mul_bd (a := m) (b := st k) (A := 20) (B := 300) (by omega) (by omega) (by omega) (by omega)
          have HBD := Lib.hid bD
          clear bD
          go_wp2
          go_region
          have bD2 := (HBD.out.set_ (1 + k) (.int .i64 (wrap64 (h.m k + m * st k)))).drew
          rw [hmid_step h (fun i => wrap64 (h.m i + m * st i)) hlt] at bD2
          have bT2 := (bT.far (p := ⟨S, 1 + k, none⟩) (by simp; omega) (.int .i64 (wrap64 (h.m k + m * st k)))).drew
          have bA2 := (bA.far (p := ⟨S, 1 + k, none⟩) (by simp; omega) (.int .i64 (wrap64 (h.m k + m * st k)))).drew
          have hB2 := (hB.setCell (p := ⟨S, 1 + k, none⟩) (by simp; omega) (.int .i64 (wrap64 (h.m k + m * st k)))).drew
          go_wp2
          go_roundw
          case rel => exact ⟨k + 1, by omega, by go_num, bT2, bA2, bD2, hB2⟩
          case measure => simp [intOf]; omega
        · obtain rfl : k = 5 := by omega
          rw [hmid_all, HGG.out] at bD
          clear bT
          go_wp2_with (first | refine ld_size bA rfl _ rfl rfl ?_ | refine ld_head bD rfl _ rfl rfl ?_)
          refine (HF2.out _).mono ?_
          rintro e w9 ⟨rfl, hb9⟩
          have hB9 := hB.trans (hb9.mono hB.size)
          clear bA bD hB hb9
          rcases HFIT.out with ⟨g1, g2⟩ | ⟨rfl, g1, g2⟩ | ⟨rfl, rfl, rfl⟩
          all_goals
            go_wp2_with fail
            refine (awake_any _).mono ?_
            rintro e wa ⟨rfl, hba⟩
            go_wp2
            go_ret
            exact ⟨rfl, hB9.trans (hba.mono hB9.size)⟩
end Go.Proofs.Ytghbipipehglfaa
