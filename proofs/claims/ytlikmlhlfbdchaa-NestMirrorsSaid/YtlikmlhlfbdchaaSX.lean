/- Merged: S1 S2 S3 S4. -/
import Derived.Test.YtlikmlhlfbdchaaRV
/- nest: what Check answers, plain. -/
namespace Go.Proofs.Ytlikmlhlfbdchaa
open Go.RowKit Go.Shelf
namespace Ne
/-- the first of n that is wrong; n where none is -/
def fst (f : Nat → Bool) : Nat → Nat
  | 0 => 0
  | k + 1 => if fst f k < k then fst f k else if f k = true then k + 1 else k
theorem fst_le (f : Nat → Bool) (k : Nat) : fst f k ≤ k := by
  induction k with
  | zero => exact Nat.le_refl _
  | succ k ih => unfold fst; split <;> (try split) <;> omega
theorem fst_step {f : Nat → Bool} {k : Nat} (h : fst f k = k) (hf : f k = true) : fst f (k + 1) = k + 1 := by
  unfold fst; rw [if_neg (by omega), if_pos hf]
theorem fst_wrong {f : Nat → Bool} {k n : Nat} (h : fst f k = k) (hf : f k = false) (hn : k < n) : fst f n = k := by
  induction n with
  | zero => omega
  | succ n ih =>
    by_cases e : k = n
    · subst e; unfold fst; rw [if_neg (by omega), hf]; rfl
    · have := ih (by omega)
      unfold fst; rw [this, if_pos (by omega)]
theorem fst_at {f : Nat → Bool} {n : Nat} (h : fst f n = n) {k : Nat} (hk : k < n) : f k = true := by
  induction n with
  | zero => omega
  | succ n ih =>
    have hl := fst_le f n
    unfold fst at h
    split at h
    · omega
    · rename_i hnl
      split at h
      · rename_i hfn
        by_cases e : k = n
        · subst e; exact hfn
        · exact ih (by omega) (by omega)
      · omega
/-- a place whose fields are right -/
def rgB (ps : List Pa) (p : Pc) : Bool := lsB ps p && (!p.t || (ps.getD p.p.toNat za).t)
/-- corners within a board, by and by -/
def onK (b : Bo) (o : List Geo.XY) : Nat → Bool
  | 0 => true
  | k + 1 => onK b o k && (decide (0 ≤ (Geo.X o k).1 ∧ (Geo.X o k).1 ≤ b.w) && decide (0 ≤ (Geo.X o k).2 ∧ (Geo.X o k).2 ≤ b.h))
def onBb (b : Bo) (o : List Geo.XY) : Bool := onK b o o.length
theorem onK_mono {b : Bo} {o : List Geo.XY} {j k : Nat} (h : j ≤ k) (hk : onK b o k = true) : onK b o j = true := by
  induction k with
  | zero => obtain rfl : j = 0 := by omega
            rfl
  | succ k ih =>
    by_cases e : j = k + 1
    · subst e; exact hk
    · unfold onK at hk; simp only [Bool.and_eq_true] at hk; exact ih (by omega) hk.1
theorem onBb_iff {b : Bo} {o : List Geo.XY} : onBb b o = true ↔ OnB b o := by
  constructor
  · intro h k hk
    have := onK_mono (show k + 1 ≤ o.length by omega) h
    unfold onK at this
    simp only [Bool.and_eq_true, decide_eq_true_eq] at this
    exact this.2
  · intro h
    have : ∀ k, k ≤ o.length → onK b o k = true := fun k => by
      induction k with
      | zero => intro _; rfl
      | succ k ih =>
        intro hk
        unfold onK
        simp only [Bool.and_eq_true, decide_eq_true_eq]
        exact ⟨ih (by omega), h k (by omega)⟩
    exact this _ (Nat.le_refl _)
/-- the document's way: by the ends -/
theorem onBb_ends {b : Bo} {o : List Geo.XY} (h0 : 0 < o.length) : onBb b o = decide ((0 ≤ lo1 (1, 0) o ∧ 0 ≤ lo1 (0, 1) o) ∧ hi1 (1, 0) o ≤ b.w ∧ hi1 (0, 1) o ≤ b.h) := by
  rw [Bool.eq_iff_iff, onBb_iff, decide_eq_true_eq]
  constructor
  · intro h
    obtain ⟨k1, h1, f1⟩ := lo_is (1, 0) h0
    obtain ⟨k2, h2, f2⟩ := lo_is (0, 1) h0
    obtain ⟨k3, h3, f3⟩ := hi_is (1, 0) h0
    obtain ⟨k4, h4, f4⟩ := hi_is (0, 1) h0
    have a1 := h k1 h1
    have a2 := h k2 h2
    have a3 := h k3 h3
    have a4 := h k4 h4
    rw [dt10] at f1 f3
    rw [dt01] at f2 f4
    omega
  · intro h k hk
    have a1 := lo_min (1, 0) hk
    have a2 := hi_max (1, 0) hk
    have a3 := lo_min (0, 1) hk
    have a4 := hi_max (0, 1) hk
    rw [dt10] at a1 a2
    rw [dt01] at a3 a4
    omega
/-- place i does not clash with those ahead of it -/
noncomputable def cfK (ps : List Pa) (pl : List Pc) (g : Int) (i : Nat) : Nat → Bool
  | 0 => true
  | j + 1 => cfK ps pl g i j && apB (lyg ps (pl.getD i zc)) (lyg ps (pl.getD j zc)) g
noncomputable def onI (b : Bo) (ps : List Pa) (pl : List Pc) (i : Nat) : Bool := onBb b (lyg ps (pl.getD i zc))
noncomputable def clI (b : Bo) (ps : List Pa) (pl : List Pc) (i : Nat) : Bool := clB b (lyg ps (pl.getD i zc))
noncomputable def cfI (b : Bo) (ps : List Pa) (pl : List Pc) (i : Nat) : Bool := cfK ps pl b.g i i
def rgI (ps : List Pa) (pl : List Pc) (i : Nat) : Bool := rgB ps (pl.getD i zc)
/-- what Check of a valid board answers: which place, and what is wrong -/
noncomputable def ckB (b : Bo) (ps : List Pa) (pl : List Pc) : Int × Int :=
  if 200 < pl.length then (0, 4) else
  if fst (rgI ps pl) pl.length < pl.length then (fst (rgI ps pl) pl.length, 2) else
  if fst (onI b ps pl) pl.length < pl.length then (fst (onI b ps pl) pl.length, 71) else
  if fst (clI b ps pl) pl.length < pl.length then (fst (clI b ps pl) pl.length, 72) else
  if fst (cfI b ps pl) pl.length < pl.length then (fst (cfI b ps pl) pl.length, 73) else (0, 0)
noncomputable def ckA (b : Bo) (ps : List Pa) (pl : List Pc) : Int × Int := if vAll b ps = true then ckB b ps pl else (0, 70)
end Ne
end Go.Proofs.Ytlikmlhlfbdchaa
/- nest: places whose fields are right; corners on a board; both sides. -/
namespace Go.Proofs.Ytlikmlhlfbdchaa
open Go.RowKit Go.Shelf

set_option maxRecDepth 100000 in
set_option maxHeartbeats 2000000 in
theorem maylie_b (B : Option Addr) (ps : List Ne.Pa) (c' m : Nat) (hm : ps.length = m) (h60 : m ≤ 60) (p : Ne.Pc) (r : Bool) (hr : Ne.rgB ps p = r) (w : World) (hP : Ne.PaM w B ps) :
    Calls Try.prog 98 #[.slice B m c', .agg (Ne.pcL p).toArray] w fun e w' => e = .returned (.bool r) ∧ Below w.heap.size w w' := by
  have hB := (Below.refl w.heap.size w).alloc (Nat.le_refl _) (.cells (Ne.pcL p).toArray 40)
  have bP := Blk.new w 40 (Ne.pcL p).toArray
  obtain ⟨x, hx⟩ : ∃ x, Ne.lsB ps p = x := ⟨_, rfl⟩
  have HL := Lib.hid (fun W => vplace_b B ps c' m hm h60 p x hx W)
  have hrg := bP.range
  cases x with
  | false =>
    have HV : Hid (r = false) := Lib.hid (by rw [← hr]; unfold Ne.rgB; rw [hx]; rfl)
    clear hx hr
    go_enter Try.func98, Try.ntmps98
    go_wp2_with (refine ldm_pc hrg (by rfl) _ rfl rfl ?_)
    refine (HL.out _).mono ?_
    rintro e w1 ⟨rfl, b1⟩
    go_wp2
    go_ret
    exact ⟨by rw [HV.out]; rfl, hB.trans (b1.mono hB.size)⟩
  | true =>
    obtain ⟨_, _, i, ei, hi⟩ := Ne.lsB_ok hx
    rw [hm] at hi
    have HR : Hid (r = (!p.t || (ps.getD p.p.toNat Ne.za).t)) := Lib.hid (by rw [← hr]; unfold Ne.rgB; rw [hx]; rfl)
    clear hx hr
    obtain ⟨pp, px, py, pt⟩ := p
    dsimp only at ei
    subst ei
    obtain ⟨g, off, rfl, hg, hc⟩ := hP.open (by omega)
    obtain ⟨A', c1, d1, d2, _, _⟩ := hc i (by omega)
    obtain ⟨tt, htt⟩ : ∃ tt, (ps.getD i Ne.za).t = tt := ⟨_, rfl⟩
    rw [htt] at d2
    have HR2 : Hid (r = (!pt || tt)) := Lib.hid (by have := HR.out; dsimp only at this; rw [Int.toNat_natCast, htt] at this; exact this)
    have hlm : (i : Int) < (m : Int) := by omega
    clear hc HR htt hm d1
    cases pt <;> cases tt
    · have HV : Hid (r = true) := Lib.hid HR2.out
      clear HR2
      go_enter Try.func98, Try.ntmps98
      go_wp2_with (refine ldm_pc hrg (by rfl) _ rfl rfl ?_)
      refine (HL.out _).mono ?_
      rintro e w1 ⟨rfl, b1⟩
      have bP1 := bP.below b1 bP.lt
      have q0 := bP1.cell 0
      have q3 := bP1.cell 3
      simp only [List.getElem?_toArray, List.getElem?_cons_zero, List.getElem?_cons_succ] at q0 q3
      have dd : w1.cell? ⟨g, off + i * 2 + 1, none⟩ = some (.bool false) := ((hB.trans (b1.mono hB.size)).cell (p := ⟨g, off + i * 2 + 1, none⟩) hg).trans d2
      go_wp2
      go_ret
      exact ⟨by rw [HV.out]; rfl, hB.trans (b1.mono hB.size)⟩
    · have HV : Hid (r = true) := Lib.hid HR2.out
      clear HR2
      go_enter Try.func98, Try.ntmps98
      go_wp2_with (refine ldm_pc hrg (by rfl) _ rfl rfl ?_)
      refine (HL.out _).mono ?_
      rintro e w1 ⟨rfl, b1⟩
      have bP1 := bP.below b1 bP.lt
      have q0 := bP1.cell 0
      have q3 := bP1.cell 3
      simp only [List.getElem?_toArray, List.getElem?_cons_zero, List.getElem?_cons_succ] at q0 q3
      have dd : w1.cell? ⟨g, off + i * 2 + 1, none⟩ = some (.bool true) := ((hB.trans (b1.mono hB.size)).cell (p := ⟨g, off + i * 2 + 1, none⟩) hg).trans d2
      go_wp2
      go_ret
      exact ⟨by rw [HV.out]; rfl, hB.trans (b1.mono hB.size)⟩
    · have HV : Hid (r = false) := Lib.hid HR2.out
      clear HR2
      go_enter Try.func98, Try.ntmps98
      go_wp2_with (refine ldm_pc hrg (by rfl) _ rfl rfl ?_)
      refine (HL.out _).mono ?_
      rintro e w1 ⟨rfl, b1⟩
      have bP1 := bP.below b1 bP.lt
      have q0 := bP1.cell 0
      have q3 := bP1.cell 3
      simp only [List.getElem?_toArray, List.getElem?_cons_zero, List.getElem?_cons_succ] at q0 q3
      have dd : w1.cell? ⟨g, off + i * 2 + 1, none⟩ = some (.bool false) := ((hB.trans (b1.mono hB.size)).cell (p := ⟨g, off + i * 2 + 1, none⟩) hg).trans d2
      go_wp2
      go_ret
      exact ⟨by rw [HV.out]; rfl, hB.trans (b1.mono hB.size)⟩
    · have HV : Hid (r = true) := Lib.hid HR2.out
      clear HR2
      go_enter Try.func98, Try.ntmps98
      go_wp2_with (refine ldm_pc hrg (by rfl) _ rfl rfl ?_)
      refine (HL.out _).mono ?_
      rintro e w1 ⟨rfl, b1⟩
      have bP1 := bP.below b1 bP.lt
      have q0 := bP1.cell 0
      have q3 := bP1.cell 3
      simp only [List.getElem?_toArray, List.getElem?_cons_zero, List.getElem?_cons_succ] at q0 q3
      have dd : w1.cell? ⟨g, off + i * 2 + 1, none⟩ = some (.bool true) := ((hB.trans (b1.mono hB.size)).cell (p := ⟨g, off + i * 2 + 1, none⟩) hg).trans d2
      go_wp2
      go_ret
      exact ⟨by rw [HV.out]; rfl, hB.trans (b1.mono hB.size)⟩

set_option maxRecDepth 100000 in
set_option maxHeartbeats 2000000 in
theorem rright_b (B : Option Addr) (ps : List Ne.Pa) (c' m : Nat) (hm : ps.length = m) (h60 : m ≤ 60) (p : Ne.Pc) (r : Bool) (hr : Ne.rgB ps p = r) (w : World) (hP : Ne.PaM w B ps) :
    Calls Try.prog 100 #[.slice B m c', .agg (Ne.pcL p).toArray] w fun e w' => e = .returned (.bool r) ∧ Below w.heap.size w w' := by
  have hB := (Below.refl w.heap.size w).alloc (Nat.le_refl _) (.cells (Ne.pcL p).toArray 40)
  have bP := Blk.new w 40 (Ne.pcL p).toArray
  obtain ⟨x, hx⟩ : ∃ x, Ne.lsB ps p = x := ⟨_, rfl⟩
  have HL := Lib.hid (fun W => rlies_b B ps c' m hm h60 p x hx W)
  have hrg := bP.range
  cases x with
  | false =>
    have HV : Hid (r = false) := Lib.hid (by rw [← hr]; unfold Ne.rgB; rw [hx]; rfl)
    clear hx hr
    go_enter Try.func100, Try.ntmps100
    go_wp2_with (refine ldm_pc hrg (by rfl) _ rfl rfl ?_)
    refine (HL.out _).mono ?_
    rintro e w1 ⟨rfl, b1⟩
    go_wp2
    go_ret
    exact ⟨by rw [HV.out]; rfl, hB.trans (b1.mono hB.size)⟩
  | true =>
    obtain ⟨_, _, i, ei, hi⟩ := Ne.lsB_ok hx
    rw [hm] at hi
    have HR : Hid (r = (!p.t || (ps.getD p.p.toNat Ne.za).t)) := Lib.hid (by rw [← hr]; unfold Ne.rgB; rw [hx]; rfl)
    clear hx hr
    obtain ⟨pp, px, py, pt⟩ := p
    dsimp only at ei
    subst ei
    obtain ⟨g, off, rfl, hg, hc⟩ := hP.open (by omega)
    obtain ⟨A', c1, d1, d2, _, _⟩ := hc i (by omega)
    obtain ⟨tt, htt⟩ : ∃ tt, (ps.getD i Ne.za).t = tt := ⟨_, rfl⟩
    rw [htt] at d2
    have HR2 : Hid (r = (!pt || tt)) := Lib.hid (by have := HR.out; dsimp only at this; rw [Int.toNat_natCast, htt] at this; exact this)
    have hlm : (i : Int) < (m : Int) := by omega
    clear hc HR htt hm d1
    cases pt <;> cases tt
    · have HV : Hid (r = true) := Lib.hid HR2.out
      clear HR2
      go_enter Try.func100, Try.ntmps100
      go_wp2_with (refine ldm_pc hrg (by rfl) _ rfl rfl ?_)
      refine (HL.out _).mono ?_
      rintro e w1 ⟨rfl, b1⟩
      have bP1 := bP.below b1 bP.lt
      have q0 := bP1.cell 0
      have q3 := bP1.cell 3
      simp only [List.getElem?_toArray, List.getElem?_cons_zero, List.getElem?_cons_succ] at q0 q3
      have dd : w1.cell? ⟨g, off + i * 2 + 1, none⟩ = some (.bool false) := ((hB.trans (b1.mono hB.size)).cell (p := ⟨g, off + i * 2 + 1, none⟩) hg).trans d2
      go_wp2
      go_ret
      exact ⟨by rw [HV.out]; rfl, hB.trans (b1.mono hB.size)⟩
    · have HV : Hid (r = true) := Lib.hid HR2.out
      clear HR2
      go_enter Try.func100, Try.ntmps100
      go_wp2_with (refine ldm_pc hrg (by rfl) _ rfl rfl ?_)
      refine (HL.out _).mono ?_
      rintro e w1 ⟨rfl, b1⟩
      have bP1 := bP.below b1 bP.lt
      have q0 := bP1.cell 0
      have q3 := bP1.cell 3
      simp only [List.getElem?_toArray, List.getElem?_cons_zero, List.getElem?_cons_succ] at q0 q3
      have dd : w1.cell? ⟨g, off + i * 2 + 1, none⟩ = some (.bool true) := ((hB.trans (b1.mono hB.size)).cell (p := ⟨g, off + i * 2 + 1, none⟩) hg).trans d2
      go_wp2
      go_ret
      exact ⟨by rw [HV.out]; rfl, hB.trans (b1.mono hB.size)⟩
    · have HV : Hid (r = false) := Lib.hid HR2.out
      clear HR2
      go_enter Try.func100, Try.ntmps100
      go_wp2_with (refine ldm_pc hrg (by rfl) _ rfl rfl ?_)
      refine (HL.out _).mono ?_
      rintro e w1 ⟨rfl, b1⟩
      have bP1 := bP.below b1 bP.lt
      have q0 := bP1.cell 0
      have q3 := bP1.cell 3
      simp only [List.getElem?_toArray, List.getElem?_cons_zero, List.getElem?_cons_succ] at q0 q3
      have dd : w1.cell? ⟨g, off + i * 2 + 1, none⟩ = some (.bool false) := ((hB.trans (b1.mono hB.size)).cell (p := ⟨g, off + i * 2 + 1, none⟩) hg).trans d2
      go_wp2
      go_ret
      exact ⟨by rw [HV.out]; rfl, hB.trans (b1.mono hB.size)⟩
    · have HV : Hid (r = true) := Lib.hid HR2.out
      clear HR2
      go_enter Try.func100, Try.ntmps100
      go_wp2_with (refine ldm_pc hrg (by rfl) _ rfl rfl ?_)
      refine (HL.out _).mono ?_
      rintro e w1 ⟨rfl, b1⟩
      have bP1 := bP.below b1 bP.lt
      have q0 := bP1.cell 0
      have q3 := bP1.cell 3
      simp only [List.getElem?_toArray, List.getElem?_cons_zero, List.getElem?_cons_succ] at q0 q3
      have dd : w1.cell? ⟨g, off + i * 2 + 1, none⟩ = some (.bool true) := ((hB.trans (b1.mono hB.size)).cell (p := ⟨g, off + i * 2 + 1, none⟩) hg).trans d2
      go_wp2
      go_ret
      exact ⟨by rw [HV.out]; rfl, hB.trans (b1.mono hB.size)⟩

set_option maxRecDepth 100000 in
set_option maxHeartbeats 2000000 in
theorem ison_b (b : Ne.Bo) (A B : Option Addr) (o : List Geo.XY) (n c m c' : Nat) (hm : o.length = m) (h64 : m ≤ 64) (r : Bool) (hr : Ne.onBb b o = r) (w : World) (hO : Pts w B o) :
    Calls Try.prog 106 #[.agg (boW b A n c), .slice B m c'] w fun e w' => e = .returned (.bool r) ∧ Below w.heap.size w w' := by
  have hB := (Below.refl w.heap.size w).alloc (Nat.le_refl _) (.cells (boW b A n c) 33)
  have bB := Blk.new w 33 (boW b A n c)
  have HV : Hid (r = Ne.onK b o m) := Lib.hid (by rw [← hr, ← hm]; rfl)
  have HNO : Hid (∀ k, k < m → Ne.onK b o (k + 1) = false → r = false) := Lib.hid (fun k hk h => by
    rw [HV.out]
    cases e : Ne.onK b o m with
    | false => rfl
    | true => rw [Ne.onK_mono (show k + 1 ≤ m by omega) e] at h; cases h)
  have HO := Lib.hid (hO.below hB)
  have HM := Lib.hid hm
  clear hr hm hO
  go_enter Try.func106, Try.ntmps106
  go_wp2
  generalize w.alloc (.cells (boW b A n c) 33) = w1 at *
  go_loopw [9] (fun i wr => ∃ k : Nat, k ≤ m ∧ i = .int .i64 k ∧ Ne.onK b o k = true ∧ Below w1.heap.size w1 wr) (fun i _ => m - (intOf i).toNat)
  case atStart => exact ⟨0, Nat.zero_le _, rfl, rfl, Below.refl _ _⟩
  case round =>
    obtain ⟨k, hk, rfl, hv, hb⟩ := hrel
    have HVK := Lib.hid hv
    clear hv
    by_cases hlt : k < m
    · obtain ⟨g, off, rfl, hg, hc⟩ := pts_open (HO.out.below hb) (by rw [HM.out]; omega)
      obtain ⟨k1, k2⟩ := hc k (by rw [HM.out]; exact hlt)
      obtain ⟨X, hX⟩ : ∃ X, (Geo.X o k).1 = X := ⟨_, rfl⟩
      obtain ⟨Y, hY⟩ : ∃ Y, (Geo.X o k).2 = Y := ⟨_, rfl⟩
      rw [hX] at k1
      rw [hY] at k2
      obtain ⟨y0, g0⟩ : ∃ x, decide (0 ≤ X ∧ X ≤ b.w) = x := ⟨_, rfl⟩
      obtain ⟨y1, g1⟩ : ∃ x, decide (0 ≤ Y ∧ Y ≤ b.h) = x := ⟨_, rfl⟩
      have HS : Hid (Ne.onK b o (k + 1) = (y0 && y1)) := Lib.hid (by rw [Ne.onK, HVK.out, hX, hY, g0, g1]; rfl)
      have G0 := Lib.hid g0
      have G1 := Lib.hid g1
      clear hc hX hY g0 g1
      have bB1 := (bB.below hb bB.lt).alloc (.cells #[.int .i64 X, .int .i64 Y] 76)
      have bN := Blk.new wr 76 #[.int .i64 X, .int .i64 Y]
      have p0 := bB1.cell 0
      have p1 := bB1.cell 1
      have f0 := bN.cell 0
      have f1 := bN.cell 1
      simp only [List.getElem?_toArray, List.getElem?_cons_zero, List.getElem?_cons_succ] at p0 p1 f0 f1
      have hb2 := hb.alloc hb.size (.cells #[.int .i64 X, .int .i64 Y] 76)
      clear bN bB1
      cases y0
      · go_wp2_with fail
        refine (within_e _ _ _ _).mono ?_
        rintro e w2 ⟨rfl, rfl⟩
        rw [G0.out]
        go_wp2
        go_ret
        exact ⟨by rw [HNO.out k hlt HS.out]; rfl, hB.trans (hb2.mono hB.size)⟩
      cases y1
      · go_wp2_with fail
        refine (within_e _ _ _ _).mono ?_
        rintro e w2 ⟨rfl, rfl⟩
        rw [G0.out]
        go_wp2_with fail
        refine (within_e _ _ _ _).mono ?_
        rintro e w2 ⟨rfl, rfl⟩
        rw [G1.out]
        go_wp2
        go_ret
        exact ⟨by rw [HNO.out k hlt HS.out]; rfl, hB.trans (hb2.mono hB.size)⟩
      · go_wp2_with fail
        refine (within_e _ _ _ _).mono ?_
        rintro e w2 ⟨rfl, rfl⟩
        rw [G0.out]
        go_wp2_with fail
        refine (within_e _ _ _ _).mono ?_
        rintro e w2 ⟨rfl, rfl⟩
        rw [G1.out]
        go_wp2
        go_roundw
        case rel => exact ⟨k + 1, by omega, by go_num, HS.out, hb2⟩
        case measure => simp [intOf]; omega
    · obtain rfl : k = m := by omega
      go_wp2
      go_ret
      exact ⟨by rw [HV.out, HVK.out]; rfl, hB.trans (hb.mono hB.size)⟩

set_option maxRecDepth 100000 in
set_option maxHeartbeats 2000000 in
theorem ron_b (b : Ne.Bo) (A B : Option Addr) (o : List Geo.XY) (n c m c' : Nat) (hm : o.length = m) (h0 : 0 < m) (h64 : m ≤ 100000) (r : Bool) (hr : Ne.onBb b o = r) (w : World) (hO : Pts w B o) :
    Calls Try.prog 101 #[.agg (boW b A n c), .slice B m c'] w fun e w' => e = .returned (.bool r) ∧ Below w.heap.size w w' := by
  have hB := (Below.refl w.heap.size w).alloc (Nat.le_refl _) (.cells (boW b A n c) 33)
  have bB := Blk.new w 33 (boW b A n c)
  rw [Ne.onBb_ends (by omega)] at hr
  obtain ⟨x1, hx1⟩ : ∃ x, Ne.lo1 (1, 0) o = x := ⟨_, rfl⟩
  obtain ⟨y1, hy1⟩ : ∃ x, Ne.lo1 (0, 1) o = x := ⟨_, rfl⟩
  obtain ⟨x2, hx2⟩ : ∃ x, Ne.hi1 (1, 0) o = x := ⟨_, rfl⟩
  obtain ⟨y2, hy2⟩ : ∃ x, Ne.hi1 (0, 1) o = x := ⟨_, rfl⟩
  rw [hx1, hy1, hx2, hy2] at hr
  have HR := Lib.hid hr
  have HEN : Hid (∀ W, Pts W B o → Calls Try.prog 63 #[.slice B m c'] W fun e w' => e = .returned (.tuple #[.agg #[.int .i64 x1, .int .i64 y1], .agg #[.int .i64 x2, .int .i64 y2]]) ∧ Below W.heap.size W w') := Lib.hid (fun W hW => by
    obtain ⟨b3, off3, rfl, hb3, hc3⟩ := pts_open hW (by omega)
    have H := ends_w b3 off3 c' o (by omega) (by omega) W hb3 hc3
    obtain ⟨l1, l2, l3, l4⟩ := Ne.low_lo (l := o) (by omega)
    rw [l1, l2, l3, l4, hx1, hy1, hx2, hy2, hm] at H
    exact H)
  have HO := Lib.hid (hO.below hB)
  clear hr hm hO hx1 hy1 hx2 hy2
  by_cases c0 : 0 ≤ x1
  case neg =>
    have d0 : decide (0 ≤ x1) = false := by simp; omega
    have HV : Hid (r = false) := Lib.hid (by rw [← HR.out]; exact decide_eq_false (by omega))
    go_enter Try.func101, Try.ntmps101
    go_wp2_with fail
    refine (HEN.out _ HO.out).mono ?_
    rintro e w1 ⟨rfl, b1⟩
    have hB1 := hB.trans (b1.mono hB.size)
    have bB1 := ((bB.below b1 bB.lt).alloc (.cells #[.int .i64 x1, .int .i64 y1] 76)).alloc (.cells #[.int .i64 x2, .int .i64 y2] 76)
    have bL := (Blk.new w1 76 #[.int .i64 x1, .int .i64 y1]).alloc (.cells #[.int .i64 x2, .int .i64 y2] 76)
    have bH := Blk.new (w1.alloc (.cells #[.int .i64 x1, .int .i64 y1] 76)) 76 #[.int .i64 x2, .int .i64 y2]
    rw [World.size_alloc] at bH
    have hB3 := (hB1.alloc hB1.size (.cells #[.int .i64 x1, .int .i64 y1] 76)).alloc (by have := hB1.size; simp; omega) (.cells #[.int .i64 x2, .int .i64 y2] 76)
    have p0 := bB1.cell 0
    have p1 := bB1.cell 1
    have a0 := bL.cell 0
    have a1 := bL.cell 1
    have e0 := bH.cell 0
    have e1 := bH.cell 1
    simp only [List.getElem?_toArray, List.getElem?_cons_zero, List.getElem?_cons_succ] at p0 p1 a0 a1 e0 e1
    clear bB1 bL bH
    go_wp2
    go_ret
    exact ⟨by rw [HV.out]; rfl, hB3⟩
  by_cases c1 : 0 ≤ y1
  case neg =>
    have d0 : decide (0 ≤ x1) = true := by simp; omega
    have d1 : decide (0 ≤ y1) = false := by simp; omega
    have HV : Hid (r = false) := Lib.hid (by rw [← HR.out]; exact decide_eq_false (by omega))
    go_enter Try.func101, Try.ntmps101
    go_wp2_with fail
    refine (HEN.out _ HO.out).mono ?_
    rintro e w1 ⟨rfl, b1⟩
    have hB1 := hB.trans (b1.mono hB.size)
    have bB1 := ((bB.below b1 bB.lt).alloc (.cells #[.int .i64 x1, .int .i64 y1] 76)).alloc (.cells #[.int .i64 x2, .int .i64 y2] 76)
    have bL := (Blk.new w1 76 #[.int .i64 x1, .int .i64 y1]).alloc (.cells #[.int .i64 x2, .int .i64 y2] 76)
    have bH := Blk.new (w1.alloc (.cells #[.int .i64 x1, .int .i64 y1] 76)) 76 #[.int .i64 x2, .int .i64 y2]
    rw [World.size_alloc] at bH
    have hB3 := (hB1.alloc hB1.size (.cells #[.int .i64 x1, .int .i64 y1] 76)).alloc (by have := hB1.size; simp; omega) (.cells #[.int .i64 x2, .int .i64 y2] 76)
    have p0 := bB1.cell 0
    have p1 := bB1.cell 1
    have a0 := bL.cell 0
    have a1 := bL.cell 1
    have e0 := bH.cell 0
    have e1 := bH.cell 1
    simp only [List.getElem?_toArray, List.getElem?_cons_zero, List.getElem?_cons_succ] at p0 p1 a0 a1 e0 e1
    clear bB1 bL bH
    go_wp2
    go_ret
    exact ⟨by rw [HV.out]; rfl, hB3⟩
  by_cases c2 : x2 ≤ b.w
  case neg =>
    have d0 : decide (0 ≤ x1) = true := by simp; omega
    have d1 : decide (0 ≤ y1) = true := by simp; omega
    have d2 : decide (x2 ≤ b.w) = false := by simp; omega
    have HV : Hid (r = false) := Lib.hid (by rw [← HR.out]; exact decide_eq_false (by omega))
    go_enter Try.func101, Try.ntmps101
    go_wp2_with fail
    refine (HEN.out _ HO.out).mono ?_
    rintro e w1 ⟨rfl, b1⟩
    have hB1 := hB.trans (b1.mono hB.size)
    have bB1 := ((bB.below b1 bB.lt).alloc (.cells #[.int .i64 x1, .int .i64 y1] 76)).alloc (.cells #[.int .i64 x2, .int .i64 y2] 76)
    have bL := (Blk.new w1 76 #[.int .i64 x1, .int .i64 y1]).alloc (.cells #[.int .i64 x2, .int .i64 y2] 76)
    have bH := Blk.new (w1.alloc (.cells #[.int .i64 x1, .int .i64 y1] 76)) 76 #[.int .i64 x2, .int .i64 y2]
    rw [World.size_alloc] at bH
    have hB3 := (hB1.alloc hB1.size (.cells #[.int .i64 x1, .int .i64 y1] 76)).alloc (by have := hB1.size; simp; omega) (.cells #[.int .i64 x2, .int .i64 y2] 76)
    have p0 := bB1.cell 0
    have p1 := bB1.cell 1
    have a0 := bL.cell 0
    have a1 := bL.cell 1
    have e0 := bH.cell 0
    have e1 := bH.cell 1
    simp only [List.getElem?_toArray, List.getElem?_cons_zero, List.getElem?_cons_succ] at p0 p1 a0 a1 e0 e1
    clear bB1 bL bH
    go_wp2
    go_ret
    exact ⟨by rw [HV.out]; rfl, hB3⟩
  by_cases c3 : y2 ≤ b.h
  case neg =>
    have d0 : decide (0 ≤ x1) = true := by simp; omega
    have d1 : decide (0 ≤ y1) = true := by simp; omega
    have d2 : decide (x2 ≤ b.w) = true := by simp; omega
    have d3 : decide (y2 ≤ b.h) = false := by simp; omega
    have HV : Hid (r = false) := Lib.hid (by rw [← HR.out]; exact decide_eq_false (by omega))
    go_enter Try.func101, Try.ntmps101
    go_wp2_with fail
    refine (HEN.out _ HO.out).mono ?_
    rintro e w1 ⟨rfl, b1⟩
    have hB1 := hB.trans (b1.mono hB.size)
    have bB1 := ((bB.below b1 bB.lt).alloc (.cells #[.int .i64 x1, .int .i64 y1] 76)).alloc (.cells #[.int .i64 x2, .int .i64 y2] 76)
    have bL := (Blk.new w1 76 #[.int .i64 x1, .int .i64 y1]).alloc (.cells #[.int .i64 x2, .int .i64 y2] 76)
    have bH := Blk.new (w1.alloc (.cells #[.int .i64 x1, .int .i64 y1] 76)) 76 #[.int .i64 x2, .int .i64 y2]
    rw [World.size_alloc] at bH
    have hB3 := (hB1.alloc hB1.size (.cells #[.int .i64 x1, .int .i64 y1] 76)).alloc (by have := hB1.size; simp; omega) (.cells #[.int .i64 x2, .int .i64 y2] 76)
    have p0 := bB1.cell 0
    have p1 := bB1.cell 1
    have a0 := bL.cell 0
    have a1 := bL.cell 1
    have e0 := bH.cell 0
    have e1 := bH.cell 1
    simp only [List.getElem?_toArray, List.getElem?_cons_zero, List.getElem?_cons_succ] at p0 p1 a0 a1 e0 e1
    clear bB1 bL bH
    go_wp2
    go_ret
    exact ⟨by rw [HV.out]; rfl, hB3⟩
  have d0 : decide (0 ≤ x1) = true := by simp; omega
  have d1 : decide (0 ≤ y1) = true := by simp; omega
  have d2 : decide (x2 ≤ b.w) = true := by simp; omega
  have d3 : decide (y2 ≤ b.h) = true := by simp; omega
  have HV : Hid (r = true) := Lib.hid (by rw [← HR.out]; exact decide_eq_true (by omega))
  go_enter Try.func101, Try.ntmps101
  go_wp2_with fail
  refine (HEN.out _ HO.out).mono ?_
  rintro e w1 ⟨rfl, b1⟩
  have hB1 := hB.trans (b1.mono hB.size)
  have bB1 := ((bB.below b1 bB.lt).alloc (.cells #[.int .i64 x1, .int .i64 y1] 76)).alloc (.cells #[.int .i64 x2, .int .i64 y2] 76)
  have bL := (Blk.new w1 76 #[.int .i64 x1, .int .i64 y1]).alloc (.cells #[.int .i64 x2, .int .i64 y2] 76)
  have bH := Blk.new (w1.alloc (.cells #[.int .i64 x1, .int .i64 y1] 76)) 76 #[.int .i64 x2, .int .i64 y2]
  rw [World.size_alloc] at bH
  have hB3 := (hB1.alloc hB1.size (.cells #[.int .i64 x1, .int .i64 y1] 76)).alloc (by have := hB1.size; simp; omega) (.cells #[.int .i64 x2, .int .i64 y2] 76)
  have p0 := bB1.cell 0
  have p1 := bB1.cell 1
  have a0 := bL.cell 0
  have a1 := bL.cell 1
  have e0 := bH.cell 0
  have e1 := bH.cell 1
  simp only [List.getElem?_toArray, List.getElem?_cons_zero, List.getElem?_cons_succ] at p0 p1 a0 a1 e0 e1
  clear bB1 bL bH
  go_wp2
  go_ret
  exact ⟨by rw [HV.out]; rfl, hB3⟩
end Go.Proofs.Ytlikmlhlfbdchaa
/- nest: Check of a valid board, of the document. -/
namespace Go.Proofs.Ytlikmlhlfbdchaa
open Go.RowKit Go.Shelf
namespace Ne
theorem ckB_big {b : Bo} {ps : List Pa} {pl : List Pc} (h : 200 < pl.length) : ckB b ps pl = (0, 4) := if_pos h
section
variable {b : Bo} {ps : List Pa} {pl : List Pc} {k n : Nat} (hn : pl.length = n) (h200 : n ≤ 200)
include hn h200
theorem ckB_rg (hk : k < n) (h : fst (rgI ps pl) k = k) (hf : rgI ps pl k = false) : ckB b ps pl = ((k : Int), 2) := by
  unfold ckB; rw [hn, if_neg (by omega), fst_wrong h hf hk, if_pos hk]
theorem ckB_on (h1 : fst (rgI ps pl) n = n) (hk : k < n) (h : fst (onI b ps pl) k = k) (hf : onI b ps pl k = false) : ckB b ps pl = ((k : Int), 71) := by
  unfold ckB; rw [hn, if_neg (by omega), h1, if_neg (by omega), fst_wrong h hf hk, if_pos hk]
theorem ckB_cl (h1 : fst (rgI ps pl) n = n) (h2 : fst (onI b ps pl) n = n) (hk : k < n) (h : fst (clI b ps pl) k = k) (hf : clI b ps pl k = false) : ckB b ps pl = ((k : Int), 72) := by
  unfold ckB; rw [hn, if_neg (by omega), h1, if_neg (by omega), h2, if_neg (by omega), fst_wrong h hf hk, if_pos hk]
theorem ckB_cf (h1 : fst (rgI ps pl) n = n) (h2 : fst (onI b ps pl) n = n) (h3 : fst (clI b ps pl) n = n) (hk : k < n) (h : fst (cfI b ps pl) k = k) (hf : cfI b ps pl k = false) : ckB b ps pl = ((k : Int), 73) := by
  unfold ckB; rw [hn, if_neg (by omega), h1, if_neg (by omega), h2, if_neg (by omega), h3, if_neg (by omega), fst_wrong h hf hk, if_pos hk]
theorem ckB_ok (h1 : fst (rgI ps pl) n = n) (h2 : fst (onI b ps pl) n = n) (h3 : fst (clI b ps pl) n = n) (h4 : fst (cfI b ps pl) n = n) : ckB b ps pl = (0, 0) := by
  unfold ckB; rw [hn, if_neg (by omega), h1, if_neg (by omega), h2, if_neg (by omega), h3, if_neg (by omega), h4, if_neg (by omega)]
end
theorem rg_ls {ps : List Pa} {p : Pc} (h : rgB ps p = true) : lsB ps p = true := by unfold rgB at h; simp only [Bool.and_eq_true] at h; exact h.1
theorem cfK_mono {ps : List Pa} {pl : List Pc} {g : Int} {i j k : Nat} (h : j ≤ k) (hk : cfK ps pl g i k = true) : cfK ps pl g i j = true := by
  induction k with
  | zero => obtain rfl : j = 0 := by omega
            rfl
  | succ k ih =>
    by_cases e : j = k + 1
    · subst e; exact hk
    · unfold cfK at hk; simp only [Bool.and_eq_true] at hk; exact ih (by omega) hk.1
theorem dir_ls {ps : List Pa} {p : Pc} (hv : vPa ps = true) (h : lsB ps p = true) : DirOk (lyg ps p) := by
  obtain ⟨_, _, i, ei, hi⟩ := lsB_ok h
  exact dir_lyg (by rw [ei, Int.toNat_natCast]; exact vPa_at hv hi)
end Ne
/-- lying of the document, as Check uses it -/
theorem rly_at (B : Option Addr) (ps : List Ne.Pa) (c' m : Nat) (hm : ps.length = m) (hv : Ne.vPa ps = true) (p : Ne.Pc) (hp : Ne.lsB ps p = true) (N : Nat) (hN : (Ne.lyg ps p).length = N) (W : World) (h : Ne.PaM W B ps) :
    Calls Try.prog 61 #[.slice B m c', .agg (Ne.pcL p).toArray] W fun e w' => ∃ A1 c1, e = .returned (.slice A1 N c1) ∧ Pts w' A1 (Ne.lyg ps p) ∧ N ≤ c1 ∧ Below W.heap.size W w' := by
  obtain ⟨x1, y1, i, ei, hi⟩ := Ne.lsB_ok hp
  rw [hm] at hi
  obtain ⟨pp, px, py, pt⟩ := p
  dsimp only at x1 y1 ei
  subst ei
  refine (rlying_b B ps c' m i hm hi px py pt x1 y1 (Ne.vPa_at hv (by omega)) N (by rw [← hN, Ne.lyg_len]; show _ = (ps.getD ((i : Nat) : Int).toNat Ne.za).o.length; rw [Int.toNat_natCast]) _ rfl W h).mono ?_
  rintro e w' ⟨v, rfl, hO, hb⟩
  rw [← hN] at hO
  obtain ⟨A1, c1, rfl, k1, k2⟩ := pts_of_owns' hO
  exact ⟨A1, c1, by rw [hN], k1, by omega, hb⟩

set_option maxRecDepth 100000 in
set_option maxHeartbeats 16000000 in
theorem rcheck_b (b : Ne.Bo) (A B C : Option Addr) (ps : List Ne.Pa) (pl : List Ne.Pc) (f fc m c' n c'' : Nat) (hf : b.fs.length = f) (hm : ps.length = m) (hn : pl.length = n) (hcap : n ≤ c'') (hvb : Ne.vBo b = true) (hvp : Ne.vPa ps = true) (I E : Int) (hE : Ne.ckB b ps pl = (I, E))
    (w : World) (hF : Rows Ne.rcL 4 w A b.fs) (hP : Ne.PaM w B ps) (hL : Rows Ne.pcL 4 w C pl) :
    Calls Try.prog 65 #[.agg (boW b A f fc), .slice B m c', .slice C n c''] w fun e w' => e = .returned (.tuple #[.int .i64 I, .int .i64 E]) ∧ Below w.heap.size w w' := by
  have hB := (Below.refl w.heap.size w).alloc (Nat.le_refl _) (.cells (boW b A f fc) 33)
  have bB := Blk.new w 33 (boW b A f fc)
  by_cases h200 : 200 < n
  · rw [Ne.ckB_big (by omega)] at hE
    have HEE : Hid (I = 0 ∧ E = 4) := Lib.hid (by cases hE; exact ⟨rfl, rfl⟩)
    have d1 : decide ((200 : Int) < (n : Int)) = true := by simp; omega
    clear hE
    go_enter Try.func65, Try.ntmps65
    go_wp2
    go_ret2
    exact ⟨by rw [HEE.out.1, HEE.out.2]; rfl, hB⟩
  have d1 : decide ((200 : Int) < (n : Int)) = false := by simp; omega
  have h2 : n ≤ 200 := by omega
  have h60 := Ne.vPa_len hvp
  rw [hm] at h60
  have hvi := Ne.vBo_in hvb
  have HRG : Hid (∀ p y, Ne.rgB ps p = y → ∀ W, Ne.PaM W B ps → Calls Try.prog 100 #[.slice B m c', .agg (Ne.pcL p).toArray] W fun e w' => e = .returned (.bool y) ∧ Below W.heap.size W w') := Lib.hid (fun p y hy W h => rright_b B ps c' m hm h60 p y hy W h)
  have HLY := Lib.hid (fun p (hp : Ne.lsB ps p = true) N (hN : (Ne.lyg ps p).length = N) W h => rly_at B ps c' m hm hvp p hp N hN W h)
  have HBD := Lib.hid (fun p (hp : Ne.lsB ps p = true) => (⟨Ne.lyg_bd hvp hp, Ne.dir_ls hvp hp⟩ : (Ne.AllBd (Ne.lyg ps p) ∧ 3 ≤ (Ne.lyg ps p).length ∧ (Ne.lyg ps p).length ≤ 64) ∧ Ne.DirOk (Ne.lyg ps p)))
  have HON := Lib.hid (fun D o N (hN : o.length = N) (h3 : 3 ≤ N) (h64 : N ≤ 64) c1 y (hy : Ne.onBb b o = y) W (h : Pts W D o) => ron_b b A D o f fc N c1 hN (by omega) (by omega) y hy W h)
  have HCL := Lib.hid (fun D o N (hN : o.length = N) (h3 : 3 ≤ N) (h64 : N ≤ 64) c1 (hbd : Ne.AllBd o) (hd : Ne.DirOk o) y (hy : Ne.clB b o = y) W (h1 : Rows Ne.rcL 4 W A b.fs) (h : Pts W D o) => rclear_b b A D o f fc N c1 hf hN h3 h64 hvb hbd hd y hy W h1 h)
  have HAP := Lib.hid (fun D1 D2 o p N M (hN : o.length = N) (hM : p.length = M) (h3 : 3 ≤ N) (h64 : N ≤ 64) (k3 : 3 ≤ M) (k64 : M ≤ 64) c1 c2 (hbd : Ne.AllBd o) (hbd2 : Ne.AllBd p) (hd : Ne.DirOk o) (hd2 : Ne.DirOk p) y (hy : Ne.apB o p b.g = y) W (h : Pts W D1 o) (h1 : Pts W D2 p) =>
    show Calls Try.prog 52 #[.slice D1 N c1, .slice D2 M c2, .int .i64 b.g] W (fun e w' => e = .returned (.bool y) ∧ Below W.heap.size W w') from by
      have H := rapart_b D1 D2 o p c1 c2 b.g (by omega) (by omega) (by omega) (by omega) hbd hbd2 hd.alldir hd2.alldir hvi.2.2.1.1 hvi.2.2.1.2 y hy W h h1
      rw [hN, hM] at H
      exact H)
  have H1 : Hid (∀ k, k < n → Ne.fst (Ne.rgI ps pl) k = k → Ne.rgI ps pl k = false → I = k ∧ E = 2) := Lib.hid (fun k hk h hf => by
    have := hE.symm.trans (Ne.ckB_rg hn h2 hk h hf); cases this; exact ⟨rfl, rfl⟩)
  have H2 : Hid (Ne.fst (Ne.rgI ps pl) n = n → ∀ k, k < n → Ne.fst (Ne.onI b ps pl) k = k → Ne.onI b ps pl k = false → I = k ∧ E = 71) := Lib.hid (fun a k hk h hf => by
    have := hE.symm.trans (Ne.ckB_on hn h2 a hk h hf); cases this; exact ⟨rfl, rfl⟩)
  have H3 : Hid (Ne.fst (Ne.rgI ps pl) n = n → Ne.fst (Ne.onI b ps pl) n = n → ∀ k, k < n → Ne.fst (Ne.clI b ps pl) k = k → Ne.clI b ps pl k = false → I = k ∧ E = 72) := Lib.hid (fun a a' k hk h hf => by
    have := hE.symm.trans (Ne.ckB_cl hn h2 a a' hk h hf); cases this; exact ⟨rfl, rfl⟩)
  have H4 : Hid (Ne.fst (Ne.rgI ps pl) n = n → Ne.fst (Ne.onI b ps pl) n = n → Ne.fst (Ne.clI b ps pl) n = n → ∀ k, k < n → Ne.fst (Ne.cfI b ps pl) k = k → Ne.cfI b ps pl k = false → I = k ∧ E = 73) := Lib.hid (fun a a' a'' k hk h hf => by
    have := hE.symm.trans (Ne.ckB_cf hn h2 a a' a'' hk h hf); cases this; exact ⟨rfl, rfl⟩)
  have H5 : Hid (Ne.fst (Ne.rgI ps pl) n = n → Ne.fst (Ne.onI b ps pl) n = n → Ne.fst (Ne.clI b ps pl) n = n → Ne.fst (Ne.cfI b ps pl) n = n → I = 0 ∧ E = 0) := Lib.hid (fun a a' a'' a3 => by
    have := hE.symm.trans (Ne.ckB_ok hn h2 a a' a'' a3); cases this; exact ⟨rfl, rfl⟩)
  have HF := Lib.hid (hF.below hB)
  have HP := Lib.hid (hP.below hB)
  have HL := Lib.hid (hL.below hB)
  have HN := Lib.hid hn
  clear hE hF hP hL hn hm hvb hvp hf hvi
  go_enter Try.func65, Try.ntmps65
  go_wp2
  generalize w.alloc (.cells (boW b A f fc) 33) = w1 at *
  clear d1
  go_loopw [23] (fun i wr => ∃ k : Nat, k ≤ n ∧ i = .int .i64 k ∧ Ne.fst (Ne.rgI ps pl) k = k ∧ Below w1.heap.size w1 wr) (fun i _ => n - (intOf i).toNat)
  case atStart => exact ⟨0, Nat.zero_le _, rfl, rfl, Below.refl _ _⟩
  case round =>
    obtain ⟨k, hk, rfl, hv, hb⟩ := hrel
    have HVK := Lib.hid hv
    clear hv
    by_cases hlt : k < n
    · obtain ⟨gq, oq, hCe, hg, hc⟩ := (HL.out.below hb).at (z := Ne.zc) (by rw [HN.out]; omega)
      subst hCe
      have hck := hc k (by rw [HN.out]; exact hlt)
      obtain ⟨p, hp⟩ : ∃ p, pl.getD k Ne.zc = p := ⟨_, rfl⟩
      rw [hp] at hck
      have HPP := Lib.hid hp
      have hb2 := hb.alloc hb.size (.cells (Ne.pcL p).toArray 40)
      have bN := Blk.new wr 40 (Ne.pcL p).toArray
      have hrN := bN.range
      have bB2 := (bB.below hb bB.lt).alloc (.cells (Ne.pcL p).toArray 40)
      clear hc hp
      obtain ⟨y, hy⟩ : ∃ y, Ne.rgB ps p = y := ⟨_, rfl⟩
      have HY : Hid (Ne.rgI ps pl k = y) := Lib.hid (by unfold Ne.rgI; rw [HPP.out, hy])
      have HR := Lib.hid (HRG.out p y hy)
      clear hy
      go_wp2_with (first | refine ldm_pc hck (by rfl) _ rfl rfl ?_ | refine ldm_pc hrN (by rfl) _ rfl rfl ?_)
      refine (HR.out _ (HP.out.below hb2)).mono ?_
      rintro e w2 ⟨rfl, hb3⟩
      have hb4 := hb2.trans (hb3.mono hb2.size)
      cases y with
      | false =>
        obtain ⟨e1, e2⟩ := H1.out k hlt HVK.out HY.out
        have HEE : Hid (I = k ∧ E = 2) := Lib.hid ⟨e1, e2⟩
        clear e1 e2
        go_wp2
        go_ret2
        exact ⟨by rw [HEE.out.1, HEE.out.2]; rfl, hB.trans (hb4.mono hB.size)⟩
      | true =>
        go_wp2
        go_roundw
        case rel => exact ⟨k + 1, by omega, by go_num, Ne.fst_step HVK.out HY.out, hb4⟩
        case measure => simp [intOf]; omega
    · obtain rfl : n = k := by omega
      have HA1 := Lib.hid HVK.out
      have HALL := Lib.hid (fun j (hj : j < n) => Ne.rg_ls (by have := Ne.fst_at HA1.out hj; unfold Ne.rgI at this; exact this))
      go_wp2
      go_loopw [36] (fun i wr => ∃ k : Nat, k ≤ n ∧ i = .int .i64 k ∧ Ne.fst (Ne.onI b ps pl) k = k ∧ Below w1.heap.size w1 wr) (fun i _ => n - (intOf i).toNat)
      case atStart => exact ⟨0, Nat.zero_le _, rfl, rfl, by assumption⟩
      case round =>
        obtain ⟨k, hk, rfl, hv, hb⟩ := hrel
        have HVK := Lib.hid hv
        clear hv
        by_cases hlt : k < n
        · obtain ⟨gq, oq, hCe, hg, hc⟩ := (HL.out.below hb).at (z := Ne.zc) (by rw [HN.out]; omega)
          subst hCe
          have hck := hc k (by rw [HN.out]; exact hlt)
          obtain ⟨p, hp⟩ : ∃ p, pl.getD k Ne.zc = p := ⟨_, rfl⟩
          rw [hp] at hck
          have HPP := Lib.hid hp
          have hb2 := hb.alloc hb.size (.cells (Ne.pcL p).toArray 40)
          have bN := Blk.new wr 40 (Ne.pcL p).toArray
          have hrN := bN.range
          have bB2 := (bB.below hb bB.lt).alloc (.cells (Ne.pcL p).toArray 40)
          clear hc hp
          have hls := HALL.out k hlt
          rw [HPP.out] at hls
          obtain ⟨N, hN⟩ : ∃ N, (Ne.lyg ps p).length = N := ⟨_, rfl⟩
          obtain ⟨⟨hbd, h3, h64⟩, hd⟩ := HBD.out p hls
          rw [hN] at h3 h64
          obtain ⟨z, hz⟩ : ∃ z, Ne.onBb b (Ne.lyg ps p) = z := ⟨_, rfl⟩
          have HZ : Hid (Ne.onI b ps pl k = z) := Lib.hid (by unfold Ne.onI; rw [HPP.out, hz])
          have HLp := Lib.hid (HLY.out p hls N hN)
          have H2p := Lib.hid (fun D c1 W => HON.out D (Ne.lyg ps p) N hN h3 h64 c1 z hz W)
          clear hls hbd hd hz hN
          go_wp2_with (refine ldm_pc hck (by rfl) _ rfl rfl ?_)
          have hwr : wr.heap.size = wr.heap.size := rfl
          generalize hwe : wr.alloc (.cells (Ne.pcL p).toArray 40) = we at *
          clear hwe hck
          refine wp_region_noPanic ?_
          refine wp_region_held (S := fun V => Below we.heap.size we V) (by kernel_rfl) ?_
          change wpAnyH _ _ _ _ _ _ _ _ (World.drew _)
          have hS : (fun V => Below we.heap.size we V) we.drew := (Below.refl _ _).drew
          have p0 := bB2.cell 0
          have p1 := bB2.cell 1
          have p2 := bB2.cell 2
          have p3 := bB2.cell 3
          have r0 := bN.cell 0
          have r1 := bN.cell 1
          have r2 := bN.cell 2
          have r3 := bN.cell 3
          have l1 := bB2.lt
          have l2 := bN.lt
          simp only [List.getElem?_toArray, List.getElem?_cons_zero, List.getElem?_cons_succ] at p0 p1 p2 p3 r0 r1 r2 r3
          generalize World.drew we = V0 at *
          refine takeD (i := 0) (d := some 41) (v := ?_) rfl rfl (by kernel_rfl) (by decide +kernel) (by decide +kernel) (fun _ _ _ h => h) (Or.inl ⟨by first | kernel_rfl | rfl, ?_⟩) hS ?_
          rotate_left
          · intro w' hT; have t0 := (Below.cell hT (p := ⟨w.heap.size, 0, none⟩) l1).trans p0; have t1 := (Below.cell hT (p := ⟨w.heap.size, 1, none⟩) l1).trans p1; have t2 := (Below.cell hT (p := ⟨w.heap.size, 2, none⟩) l1).trans p2; have t3 := (Below.cell hT (p := ⟨w.heap.size, 3, none⟩) l1).trans p3; first | (go_simp; done) | (go_simp; with_reducible rfl)
          refine takeD (i := 1) (d := some 42) (v := ?_) rfl rfl (by kernel_rfl) (by decide +kernel) (by decide +kernel) (fun _ _ _ h => h) (Or.inl ⟨by first | kernel_rfl | rfl, ?_⟩) hS ?_
          rotate_left
          · intro w' hT; first | (go_simp; done) | (go_simp; with_reducible rfl)
          refine takeD (i := 2) (d := some 43) (v := ?_) rfl rfl (by kernel_rfl) (by decide +kernel) (by decide +kernel) (fun _ _ _ h => h) (Or.inl ⟨by first | kernel_rfl | rfl, ?_⟩) hS ?_
          rotate_left
          · intro w' hT; have t0 := (Below.cell hT (p := ⟨wr.heap.size, 0, none⟩) l2).trans r0; have t1 := (Below.cell hT (p := ⟨wr.heap.size, 1, none⟩) l2).trans r1; have t2 := (Below.cell hT (p := ⟨wr.heap.size, 2, none⟩) l2).trans r2; have t3 := (Below.cell hT (p := ⟨wr.heap.size, 3, none⟩) l2).trans r3; first | (go_simp; done) | (go_simp; with_reducible rfl)
          refine wpAnyH_oneE (i := 3) (by decide +kernel) rfl (by kernel_rfl) (fun K hK' => ?_)
          go_simp
          have hV0 := hb2.trans (Below.mono hS hb2.size)
          refine (HLp.out V0 (HP.out.below hV0)).mono ?_
          rintro e V1 ⟨D, c1, rfl, hpt, _, hb3⟩
          have hS1 := Below.trans hS (hb3.mono (Below.size hS))
          refine hK' _ _ ⟨hS1, ?_⟩
          clear hK' K
          have HPT := Lib.hid hpt
          have hV1 := hV0.trans (hb3.mono hV0.size)
          clear hpt hb3
          refine wpAnyH_oneE (i := 4) (by decide +kernel) rfl (by kernel_rfl) (fun K hK' => ?_)
          go_simp
          refine (H2p.out D c1 V1 HPT.out).mono ?_
          rintro e V2 ⟨rfl, hb4⟩
          have hS2 := Below.trans hS1 (hb4.mono (Below.size hS1))
          refine hK' _ _ ⟨hS2, ?_⟩
          clear hK' K
          refine takeD (i := 5) (d := some 46) (v := .bool (!z)) rfl rfl (by kernel_rfl) (by decide +kernel) (by decide +kernel) (fun _ _ _ h => h) (Or.inl ⟨by first | kernel_rfl | rfl, ?_⟩) hS2 ?_
          · intro w' hT; first | (go_simp; done) | (go_simp; with_reducible rfl)
          refine wpAnyH_done (by decide +kernel) ?_ _
          refine NoPanic.normal ?_
          have hb5 := hV1.trans (hb4.mono hV1.size)
          clear p0 p1 p2 p3 r0 r1 r2 r3 l1 l2
          cases z with
          | false =>
            obtain ⟨e1, e2⟩ := H2.out HA1.out k hlt HVK.out HZ.out
            have HEE : Hid (I = k ∧ E = 71) := Lib.hid ⟨e1, e2⟩
            clear e1 e2
            go_wp2
            go_ret2
            exact ⟨by rw [HEE.out.1, HEE.out.2]; rfl, hB.trans (hb5.mono hB.size)⟩
          | true =>
            go_wp2
            go_roundw
            case rel => exact ⟨k + 1, by omega, by go_num, Ne.fst_step HVK.out HZ.out, hb5⟩
            case measure => simp [intOf]; omega
        · obtain rfl : n = k := by omega
          have HA2 := Lib.hid HVK.out
          go_wp2
          go_loopw [51] (fun i wr => ∃ k : Nat, k ≤ n ∧ i = .int .i64 k ∧ Ne.fst (Ne.clI b ps pl) k = k ∧ Below w1.heap.size w1 wr) (fun i _ => n - (intOf i).toNat)
          case atStart => exact ⟨0, Nat.zero_le _, rfl, rfl, by assumption⟩
          case round =>
            obtain ⟨k, hk, rfl, hv, hb⟩ := hrel
            have HVK := Lib.hid hv
            clear hv
            by_cases hlt : k < n
            · obtain ⟨gq, oq, hCe, hg, hc⟩ := (HL.out.below hb).at (z := Ne.zc) (by rw [HN.out]; omega)
              subst hCe
              have hck := hc k (by rw [HN.out]; exact hlt)
              obtain ⟨p, hp⟩ : ∃ p, pl.getD k Ne.zc = p := ⟨_, rfl⟩
              rw [hp] at hck
              have HPP := Lib.hid hp
              have hb2 := hb.alloc hb.size (.cells (Ne.pcL p).toArray 40)
              have bN := Blk.new wr 40 (Ne.pcL p).toArray
              have hrN := bN.range
              have bB2 := (bB.below hb bB.lt).alloc (.cells (Ne.pcL p).toArray 40)
              clear hc hp
              have hls := HALL.out k hlt
              rw [HPP.out] at hls
              obtain ⟨N, hN⟩ : ∃ N, (Ne.lyg ps p).length = N := ⟨_, rfl⟩
              obtain ⟨⟨hbd, h3, h64⟩, hd⟩ := HBD.out p hls
              rw [hN] at h3 h64
              obtain ⟨z, hz⟩ : ∃ z, Ne.clB b (Ne.lyg ps p) = z := ⟨_, rfl⟩
              have HZ : Hid (Ne.clI b ps pl k = z) := Lib.hid (by unfold Ne.clI; rw [HPP.out, hz])
              have HLp := Lib.hid (HLY.out p hls N hN)
              have H2p := Lib.hid (fun D c1 W => HCL.out D (Ne.lyg ps p) N hN h3 h64 c1 hbd hd z hz W)
              clear hls hbd hd hz hN
              go_wp2_with (refine ldm_pc hck (by rfl) _ rfl rfl ?_)
              have hwr : wr.heap.size = wr.heap.size := rfl
              generalize hwe : wr.alloc (.cells (Ne.pcL p).toArray 40) = we at *
              clear hwe hck
              refine wp_region_noPanic ?_
              refine wp_region_held (S := fun V => Below we.heap.size we V) (by kernel_rfl) ?_
              change wpAnyH _ _ _ _ _ _ _ _ (World.drew _)
              have hS : (fun V => Below we.heap.size we V) we.drew := (Below.refl _ _).drew
              have p0 := bB2.cell 0
              have p1 := bB2.cell 1
              have p2 := bB2.cell 2
              have p3 := bB2.cell 3
              have r0 := bN.cell 0
              have r1 := bN.cell 1
              have r2 := bN.cell 2
              have r3 := bN.cell 3
              have l1 := bB2.lt
              have l2 := bN.lt
              simp only [List.getElem?_toArray, List.getElem?_cons_zero, List.getElem?_cons_succ] at p0 p1 p2 p3 r0 r1 r2 r3
              generalize World.drew we = V0 at *
              refine takeD (i := 0) (d := some 56) (v := ?_) rfl rfl (by kernel_rfl) (by decide +kernel) (by decide +kernel) (fun _ _ _ h => h) (Or.inl ⟨by first | kernel_rfl | rfl, ?_⟩) hS ?_
              rotate_left
              · intro w' hT; have t0 := (Below.cell hT (p := ⟨w.heap.size, 0, none⟩) l1).trans p0; have t1 := (Below.cell hT (p := ⟨w.heap.size, 1, none⟩) l1).trans p1; have t2 := (Below.cell hT (p := ⟨w.heap.size, 2, none⟩) l1).trans p2; have t3 := (Below.cell hT (p := ⟨w.heap.size, 3, none⟩) l1).trans p3; first | (go_simp; done) | (go_simp; with_reducible rfl)
              refine takeD (i := 1) (d := some 57) (v := ?_) rfl rfl (by kernel_rfl) (by decide +kernel) (by decide +kernel) (fun _ _ _ h => h) (Or.inl ⟨by first | kernel_rfl | rfl, ?_⟩) hS ?_
              rotate_left
              · intro w' hT; first | (go_simp; done) | (go_simp; with_reducible rfl)
              refine takeD (i := 2) (d := some 58) (v := ?_) rfl rfl (by kernel_rfl) (by decide +kernel) (by decide +kernel) (fun _ _ _ h => h) (Or.inl ⟨by first | kernel_rfl | rfl, ?_⟩) hS ?_
              rotate_left
              · intro w' hT; have t0 := (Below.cell hT (p := ⟨wr.heap.size, 0, none⟩) l2).trans r0; have t1 := (Below.cell hT (p := ⟨wr.heap.size, 1, none⟩) l2).trans r1; have t2 := (Below.cell hT (p := ⟨wr.heap.size, 2, none⟩) l2).trans r2; have t3 := (Below.cell hT (p := ⟨wr.heap.size, 3, none⟩) l2).trans r3; first | (go_simp; done) | (go_simp; with_reducible rfl)
              refine wpAnyH_oneE (i := 3) (by decide +kernel) rfl (by kernel_rfl) (fun K hK' => ?_)
              go_simp
              have hV0 := hb2.trans (Below.mono hS hb2.size)
              refine (HLp.out V0 (HP.out.below hV0)).mono ?_
              rintro e V1 ⟨D, c1, rfl, hpt, _, hb3⟩
              have hS1 := Below.trans hS (hb3.mono (Below.size hS))
              refine hK' _ _ ⟨hS1, ?_⟩
              clear hK' K
              have HPT := Lib.hid hpt
              have hV1 := hV0.trans (hb3.mono hV0.size)
              clear hpt hb3
              refine wpAnyH_oneE (i := 4) (by decide +kernel) rfl (by kernel_rfl) (fun K hK' => ?_)
              go_simp
              refine (H2p.out D c1 V1 (HF.out.below hV1) HPT.out).mono ?_
              rintro e V2 ⟨rfl, hb4⟩
              have hS2 := Below.trans hS1 (hb4.mono (Below.size hS1))
              refine hK' _ _ ⟨hS2, ?_⟩
              clear hK' K
              refine takeD (i := 5) (d := some 61) (v := .bool (!z)) rfl rfl (by kernel_rfl) (by decide +kernel) (by decide +kernel) (fun _ _ _ h => h) (Or.inl ⟨by first | kernel_rfl | rfl, ?_⟩) hS2 ?_
              · intro w' hT; first | (go_simp; done) | (go_simp; with_reducible rfl)
              refine wpAnyH_done (by decide +kernel) ?_ _
              refine NoPanic.normal ?_
              have hb5 := hV1.trans (hb4.mono hV1.size)
              clear p0 p1 p2 p3 r0 r1 r2 r3 l1 l2
              cases z with
              | false =>
                obtain ⟨e1, e2⟩ := H3.out HA1.out HA2.out k hlt HVK.out HZ.out
                have HEE : Hid (I = k ∧ E = 72) := Lib.hid ⟨e1, e2⟩
                clear e1 e2
                go_wp2
                go_ret2
                exact ⟨by rw [HEE.out.1, HEE.out.2]; rfl, hB.trans (hb5.mono hB.size)⟩
              | true =>
                go_wp2
                go_roundw
                case rel => exact ⟨k + 1, by omega, by go_num, Ne.fst_step HVK.out HZ.out, hb5⟩
                case measure => simp [intOf]; omega
            · obtain rfl : n = k := by omega
              have HA3 := Lib.hid HVK.out
              go_wp2
              go_loopw [66] (fun i wr => ∃ k : Nat, k ≤ n ∧ i = .int .i64 k ∧ Ne.fst (Ne.cfI b ps pl) k = k ∧ Below w1.heap.size w1 wr) (fun i _ => n - (intOf i).toNat)
              case atStart => exact ⟨0, Nat.zero_le _, rfl, rfl, by assumption⟩
              case round =>
                obtain ⟨k, hk, rfl, hv, hb⟩ := hrel
                have HVK := Lib.hid hv
                clear hv
                by_cases hlt : k < n
                · obtain ⟨gq, oq, hCe, hg, hc⟩ := (HL.out.below hb).at (z := Ne.zc) (by rw [HN.out]; omega)
                  subst hCe
                  have hck := hc k (by rw [HN.out]; exact hlt)
                  obtain ⟨p, hp⟩ : ∃ p, pl.getD k Ne.zc = p := ⟨_, rfl⟩
                  rw [hp] at hck
                  have HPP := Lib.hid hp
                  have hb2 := hb.alloc hb.size (.cells (Ne.pcL p).toArray 40)
                  have bN := Blk.new wr 40 (Ne.pcL p).toArray
                  have hrN := bN.range
                  have bB2 := (bB.below hb bB.lt).alloc (.cells (Ne.pcL p).toArray 40)
                  clear hc hp
                  obtain ⟨wo, rfl⟩ : ∃ wo, wo = wr := ⟨_, rfl⟩
                  have hls := HALL.out k hlt
                  rw [HPP.out] at hls
                  obtain ⟨N, hN⟩ : ∃ N, (Ne.lyg ps p).length = N := ⟨_, rfl⟩
                  obtain ⟨⟨hbd, h3, h64⟩, hd⟩ := HBD.out p hls
                  rw [hN] at h3 h64
                  have HLp := Lib.hid (HLY.out p hls N hN)
                  have HPX := Lib.hid hbd
                  have HPD := Lib.hid hd
                  have HPN := Lib.hid hN
                  have hkc : (k : Int) ≤ (c'' : Int) := by omega
                  clear hls hbd hd hN
                  go_wp2_with (refine ldm_pc hck (by rfl) _ rfl rfl ?_)
                  generalize hwe : wo.alloc (.cells (Ne.pcL p).toArray 40) = we at *
                  clear hwe hck hrN
                  go_loopw [75] (fun i wr => ∃ j : Nat, j ≤ k ∧ i = .int .i64 j ∧ Ne.cfK ps pl b.g k j = true ∧ Below we.heap.size we wr) (fun i _ => k - (intOf i).toNat)
                  case atStart => exact ⟨0, Nat.zero_le _, rfl, rfl, Below.refl _ _⟩
                  case round =>
                    obtain ⟨j, hj, rfl, hv2, hbi⟩ := hrel
                    have HVJ := Lib.hid hv2
                    clear hv2
                    have hbw := hb2.trans (Below.mono hbi hb2.size)
                    by_cases hlj : j < k
                    · obtain ⟨g2, o2, hCe2, hg2, hc2⟩ := (HL.out.below hbw).at (z := Ne.zc) (by rw [HN.out]; omega)
                      cases hCe2
                      have hck2 := hc2 j (by rw [HN.out]; omega)
                      obtain ⟨q, hq⟩ : ∃ q, pl.getD j Ne.zc = q := ⟨_, rfl⟩
                      rw [hq] at hck2
                      have hls := HALL.out j (by omega)
                      rw [hq] at hls
                      obtain ⟨M, hM⟩ : ∃ M, (Ne.lyg ps q).length = M := ⟨_, rfl⟩
                      obtain ⟨⟨hbd, k3, k64⟩, hd⟩ := HBD.out q hls
                      rw [hM] at k3 k64
                      obtain ⟨z, hz⟩ : ∃ z, Ne.apB (Ne.lyg ps p) (Ne.lyg ps q) b.g = z := ⟨_, rfl⟩
                      have HZ : Hid (Ne.cfK ps pl b.g k (j + 1) = z) := Lib.hid (by rw [Ne.cfK, HVJ.out, HPP.out, hq, hz]; rfl)
                      have HLq := Lib.hid (HLY.out q hls M hM)
                      have H2p := Lib.hid (fun D1 D2 c1 c2 W => HAP.out D1 D2 (Ne.lyg ps p) (Ne.lyg ps q) N M HPN.out hM h3 h64 k3 k64 c1 c2 HPX.out hbd HPD.out hd z hz W)
                      have HNO : Hid (z = false → I = k ∧ E = 73) := Lib.hid (fun hzf => H4.out HA1.out HA2.out HA3.out k hlt HVK.out (by
                        unfold Ne.cfI
                        cases e : Ne.cfK ps pl b.g k k with
                        | false => rfl
                        | true => have := Ne.cfK_mono (show j + 1 ≤ k by omega) e; rw [HZ.out, hzf] at this; cases this))
                      have bB3 := (bB2.below hbi bB2.lt).alloc (.cells (Ne.pcL q).toArray 40)
                      have bP3 := (bN.below hbi bN.lt).alloc (.cells (Ne.pcL q).toArray 40)
                      have bQ3 := Blk.new wr 40 (Ne.pcL q).toArray
                      have hbi2 := hbi.alloc hbi.size (.cells (Ne.pcL q).toArray 40)
                      have hbw2 := hbw.alloc hbw.size (.cells (Ne.pcL q).toArray 40)
                      clear hls hbd hd hz hM hq hc2 k3 k64
                      go_wp2_with (refine ldm_pc hck2 (by rfl) _ rfl rfl ?_)
                      generalize hwe : wr.alloc (.cells (Ne.pcL q).toArray 40) = wf at *
                      clear hwe hck2
                      refine wp_region_noPanic ?_
                      refine wp_region_held (S := fun V => Below wf.heap.size wf V) (by kernel_rfl) ?_
                      change wpAnyH _ _ _ _ _ _ _ _ (World.drew _)
                      have hS : (fun V => Below wf.heap.size wf V) wf.drew := (Below.refl _ _).drew
                      have p0 := bB3.cell 2
                      have r0 := bP3.cell 0
                      have r1 := bP3.cell 1
                      have r2 := bP3.cell 2
                      have r3 := bP3.cell 3
                      have s0 := bQ3.cell 0
                      have s1 := bQ3.cell 1
                      have s2 := bQ3.cell 2
                      have s3 := bQ3.cell 3
                      have l1 := bB3.lt
                      have l2 := bP3.lt
                      have l3 := bQ3.lt
                      simp only [List.getElem?_toArray, List.getElem?_cons_zero, List.getElem?_cons_succ] at p0 r0 r1 r2 r3 s0 s1 s2 s3
                      generalize World.drew wf = V0 at *
                      refine takeD (i := 0) (d := some 79) (v := ?_) rfl rfl (by kernel_rfl) (by decide +kernel) (by decide +kernel) (fun _ _ _ h => h) (Or.inl ⟨by first | kernel_rfl | rfl, ?_⟩) hS ?_
                      rotate_left
                      · intro w' hT; first | (go_simp; done) | (go_simp; with_reducible rfl)
                      refine takeD (i := 1) (d := some 80) (v := ?_) rfl rfl (by kernel_rfl) (by decide +kernel) (by decide +kernel) (fun _ _ _ h => h) (Or.inl ⟨by first | kernel_rfl | rfl, ?_⟩) hS ?_
                      rotate_left
                      · intro w' hT; have t0 := (Below.cell hT (p := ⟨wo.heap.size, 0, none⟩) l2).trans r0; have t1 := (Below.cell hT (p := ⟨wo.heap.size, 1, none⟩) l2).trans r1; have t2 := (Below.cell hT (p := ⟨wo.heap.size, 2, none⟩) l2).trans r2; have t3 := (Below.cell hT (p := ⟨wo.heap.size, 3, none⟩) l2).trans r3; first | (go_simp; done) | (go_simp; with_reducible rfl)
                      refine takeD (i := 3) (d := some 82) (v := ?_) rfl rfl (by kernel_rfl) (by decide +kernel) (by decide +kernel) (fun _ _ _ h => h) (Or.inl ⟨by first | kernel_rfl | rfl, ?_⟩) hS ?_
                      rotate_left
                      · intro w' hT; first | (go_simp; done) | (go_simp; with_reducible rfl)
                      refine takeD (i := 4) (d := some 83) (v := ?_) rfl rfl (by kernel_rfl) (by decide +kernel) (by decide +kernel) (fun _ _ _ h => h) (Or.inl ⟨by first | kernel_rfl | rfl, ?_⟩) hS ?_
                      rotate_left
                      · intro w' hT; have t0 := (Below.cell hT (p := ⟨wr.heap.size, 0, none⟩) l3).trans s0; have t1 := (Below.cell hT (p := ⟨wr.heap.size, 1, none⟩) l3).trans s1; have t2 := (Below.cell hT (p := ⟨wr.heap.size, 2, none⟩) l3).trans s2; have t3 := (Below.cell hT (p := ⟨wr.heap.size, 3, none⟩) l3).trans s3; first | (go_simp; done) | (go_simp; with_reducible rfl)
                      refine takeD (i := 6) (d := some 85) (v := ?_) rfl rfl (by kernel_rfl) (by decide +kernel) (by decide +kernel) (fun _ _ _ h => h) (Or.inl ⟨by first | kernel_rfl | rfl, ?_⟩) hS ?_
                      rotate_left
                      · intro w' hT; first | (go_simp; done) | (go_simp; with_reducible rfl)
                      refine takeD (i := 7) (d := some 86) (v := ?_) rfl rfl (by kernel_rfl) (by decide +kernel) (by decide +kernel) (fun _ _ _ h => h) (Or.inl ⟨by first | kernel_rfl | rfl, ?_⟩) hS ?_
                      rotate_left
                      · intro w' hT; have t0 := (Below.cell hT (p := ⟨w.heap.size, 2, none⟩) l1).trans p0; first | (go_simp; done) | (go_simp; with_reducible rfl)
                      refine wpAnyH_oneE (i := 2) (by decide +kernel) rfl (by kernel_rfl) (fun K hK' => ?_)
                      go_simp
                      have hV0 := hbw2.trans (Below.mono hS hbw2.size)
                      refine (HLp.out V0 (HP.out.below hV0)).mono ?_
                      rintro e V1 ⟨D1, c1, rfl, hpt, _, hb3⟩
                      have hS1 := Below.trans hS (hb3.mono (Below.size hS))
                      refine hK' _ _ ⟨hS1, ?_⟩
                      clear hK' K
                      have HPT1 := Lib.hid hpt
                      have hV1 := hV0.trans (hb3.mono hV0.size)
                      clear hpt hb3
                      refine wpAnyH_oneE (i := 5) (by decide +kernel) rfl (by kernel_rfl) (fun K hK' => ?_)
                      go_simp
                      refine (HLq.out V1 (HP.out.below hV1)).mono ?_
                      rintro e V2 ⟨D2, c2, rfl, hpt, _, hb3⟩
                      have hS2 := Below.trans hS1 (hb3.mono (Below.size hS1))
                      refine hK' _ _ ⟨hS2, ?_⟩
                      clear hK' K
                      have HPT2 := Lib.hid hpt
                      have HPT3 := Lib.hid (HPT1.out.below hb3)
                      have hV2 := hV1.trans (hb3.mono hV1.size)
                      clear hpt hb3
                      refine wpAnyH_oneE (i := 8) (by decide +kernel) rfl (by kernel_rfl) (fun K hK' => ?_)
                      go_simp
                      refine (H2p.out D1 D2 c1 c2 V2 HPT3.out HPT2.out).mono ?_
                      rintro e V3 ⟨rfl, hb4⟩
                      have hS3 := Below.trans hS2 (hb4.mono (Below.size hS2))
                      refine hK' _ _ ⟨hS3, ?_⟩
                      clear hK' K
                      refine takeD (i := 9) (d := some 88) (v := .bool (!z)) rfl rfl (by kernel_rfl) (by decide +kernel) (by decide +kernel) (fun _ _ _ h => h) (Or.inl ⟨by first | kernel_rfl | rfl, ?_⟩) hS3 ?_
                      · intro w' hT; first | (go_simp; done) | (go_simp; with_reducible rfl)
                      refine wpAnyH_done (by decide +kernel) ?_ _
                      refine NoPanic.normal ?_
                      have hb5 := hV2.trans (hb4.mono hV2.size)
                      have hb6 := hbi2.trans (Below.mono hS3 hbi2.size)
                      clear p0 r0 r1 r2 r3 s0 s1 s2 s3 l1 l2 l3
                      cases z with
                      | false =>
                        have HEE := Lib.hid (HNO.out rfl)
                        go_wp2
                        go_ret2
                        exact ⟨by rw [HEE.out.1, HEE.out.2]; rfl, hB.trans (hb5.mono hB.size)⟩
                      | true =>
                        go_wp2
                        go_roundw
                        case rel => exact ⟨j + 1, by omega, by go_num, HZ.out, hb6⟩
                        case measure => simp [intOf]; omega
                    · obtain rfl : k = j := by omega
                      go_wp2
                      go_roundw
                      case rel => exact ⟨k + 1, by omega, by go_num, Ne.fst_step HVK.out HVJ.out, hbw⟩
                      case measure => simp [intOf]; omega
                · obtain rfl : n = k := by omega
                  have HEE := Lib.hid (H5.out HA1.out HA2.out HA3.out HVK.out)
                  go_wp2
                  go_ret2
                  exact ⟨by rw [HEE.out.1, HEE.out.2]; rfl, hB.trans (hb.mono hB.size)⟩
end Go.Proofs.Ytlikmlhlfbdchaa
/- nest: Check and Waste2 of the document; lists of numbers that are the same. -/
namespace Go.Proofs.Ytlikmlhlfbdchaa
open Go.RowKit Go.Shelf
namespace Ne
theorem vAll_and {b : Bo} {l : List Pa} (h : vAll b l = true) : vBo b = true ∧ vPa l = true := by unfold vAll at h; simpa [Bool.and_eq_true] using h
theorem area_bd {l : List Geo.XY} (h : Valid l) (k : Nat) (hk : k ≤ 64) : -(50000000 * (k : Int)) ≤ Geo.areaK l k ∧ Geo.areaK l k ≤ 50000000 * (k : Int) := by
  induction k with
  | zero => unfold Geo.areaK; omega
  | succ k ih =>
    have ih := ih (by omega)
    have h3 := h.1
    have e : Geo.areaK l (k + 1) = Geo.areaK l k + Geo.cr (Geo.At l k) (Geo.At l (k + 1)) := rfl
    have key : ∀ i, (-5000 ≤ (Geo.At l i).1 ∧ (Geo.At l i).1 ≤ 5000) ∧ (-5000 ≤ (Geo.At l i).2 ∧ (Geo.At l i).2 ≤ 5000) := fun i => by
      have hm : i % l.length < l.length := Nat.mod_lt _ (by omega)
      have := h.2.2.1 _ hm
      rw [← Geo.At_lt l hm, Geo.At_mod] at this
      unfold Geo.In at this; omega
    have a := key k
    have b := key (k + 1)
    have m1 := mul_bd (a := (Geo.At l k).1) (b := (Geo.At l (k + 1)).2) (A := 5000) (B := 5000) (by omega) (by omega) (by omega) (by omega)
    have m2 := mul_bd (a := (Geo.At l k).2) (b := (Geo.At l (k + 1)).1) (A := 5000) (B := 5000) (by omega) (by omega) (by omega) (by omega)
    rw [e]; unfold Geo.cr
    omega
/-- twice the area that the first k places leave -/
def arI (ps : List Pa) (p : Pc) : Int := Geo.areaK (ps.getD p.p.toNat za).o (ps.getD p.p.toNat za).o.length
def wsK (b : Bo) (ps : List Pa) (pl : List Pc) : Nat → Int
  | 0 => 2 * b.w * b.h
  | k + 1 => wsK b ps pl k - arI ps (pl.getD k zc)
noncomputable def wsA (b : Bo) (ps : List Pa) (pl : List Pc) : Int × Int := if (ckA b ps pl).2 = 0 then (wsK b ps pl pl.length, 0) else (0, (ckA b ps pl).2)
/-- what is right when nothing is wrong -/
theorem ckA_ok {b : Bo} {ps : List Pa} {pl : List Pc} (h : (ckA b ps pl).2 = 0) : vAll b ps = true ∧ pl.length ≤ 200 ∧ (∀ k, k < pl.length → rgI ps pl k = true) ∧ (∀ k, k < pl.length → onI b ps pl k = true) ∧ (∀ k, k < pl.length → clI b ps pl k = true) ∧ (∀ k, k < pl.length → cfI b ps pl k = true) ∧ (ckA b ps pl).1 = 0 := by
  unfold ckA at h ⊢
  by_cases hv : vAll b ps = true
  · rw [if_pos hv] at h ⊢
    unfold ckB at h ⊢
    by_cases h1 : 200 < pl.length
    · rw [if_pos h1] at h; cases h
    rw [if_neg h1] at h ⊢
    by_cases h2 : fst (rgI ps pl) pl.length < pl.length
    · rw [if_pos h2] at h; cases h
    rw [if_neg h2] at h ⊢
    by_cases h3 : fst (onI b ps pl) pl.length < pl.length
    · rw [if_pos h3] at h; cases h
    rw [if_neg h3] at h ⊢
    by_cases h4 : fst (clI b ps pl) pl.length < pl.length
    · rw [if_pos h4] at h; cases h
    rw [if_neg h4] at h ⊢
    by_cases h5 : fst (cfI b ps pl) pl.length < pl.length
    · rw [if_pos h5] at h; cases h
    rw [if_neg h5]
    have l1 := fst_le (rgI ps pl) pl.length
    have l2 := fst_le (onI b ps pl) pl.length
    have l3 := fst_le (clI b ps pl) pl.length
    have l4 := fst_le (cfI b ps pl) pl.length
    exact ⟨hv, by omega, fun k hk => fst_at (by omega) hk, fun k hk => fst_at (by omega) hk, fun k hk => fst_at (by omega) hk, fun k hk => fst_at (by omega) hk, rfl⟩
  · rw [if_neg hv] at h; cases h
end Ne
set_option maxRecDepth 100000 in
set_option maxHeartbeats 2000000 in
theorem rCheck_b (b : Ne.Bo) (A B C : Option Addr) (ps : List Ne.Pa) (pl : List Ne.Pc) (f fc m c' n c'' : Nat) (hf : b.fs.length = f) (hm : ps.length = m) (hn : pl.length = n) (hfM : f ≤ maxLen) (hmM : m ≤ maxLen) (hcap : n ≤ c'') (I E : Int) (hE : Ne.ckA b ps pl = (I, E))
    (w : World) (hF : Rows Ne.rcL 4 w A b.fs) (hP : Ne.PaM w B ps) (hL : Rows Ne.pcL 4 w C pl) :
    Calls Try.prog 25 #[.agg (boW b A f fc), .slice B m c', .slice C n c''] w fun e w' => e = .returned (.tuple #[.int .i64 I, .int .i64 E]) ∧ Below w.heap.size w w' := by
  have hB := (Below.refl w.heap.size w).alloc (Nat.le_refl _) (.cells (boW b A f fc) 33)
  have bB := Blk.new w 33 (boW b A f fc)
  have hrg := bB.range
  obtain ⟨x, hx⟩ : ∃ x, Ne.vAll b ps = x := ⟨_, rfl⟩
  have HC := Lib.hid (fun W h h' => rValid_b b A B fc f c' m ps hf hm hfM hmM x hx W h h')
  have HF := Lib.hid (hF.below hB)
  have HP := Lib.hid (hP.below hB)
  have HL := Lib.hid (hL.below hB)
  unfold Ne.ckA at hE
  rw [hx] at hE
  cases x with
  | false =>
    have HEE : Hid (I = 0 ∧ E = 70) := Lib.hid (by rw [if_neg (by simp)] at hE; cases hE; exact ⟨rfl, rfl⟩)
    clear hE hx hF hP hL
    go_enter Try.func25, Try.ntmps25
    go_wp2_with (refine ldm_bo hrg (by rfl) _ rfl rfl (Hid.out ?_))
    refine Lib.hid ?_
    go_wp2_with fail
    refine (HC.out _ HF.out HP.out).mono ?_
    rintro e w1 ⟨rfl, hb1⟩
    have hB1 := hB.trans (hb1.mono hB.size)
    go_wp2
    go_ret2
    exact ⟨by rw [HEE.out.1, HEE.out.2]; rfl, hB1⟩
  | true =>
    rw [if_pos rfl] at hE
    obtain ⟨hvb, hvp⟩ := Ne.vAll_and hx
    have HR := Lib.hid (fun W h h' h'' => rcheck_b b A B C ps pl f fc m c' n c'' hf hm hn hcap hvb hvp I E hE W h h' h'')
    clear hE hx hF hP hL hf hm hn hvb hvp hcap
    go_enter Try.func25, Try.ntmps25
    go_wp2_with (refine ldm_bo hrg (by rfl) _ rfl rfl (Hid.out ?_))
    refine Lib.hid ?_
    go_wp2_with fail
    refine (HC.out _ HF.out HP.out).mono ?_
    rintro e w1 ⟨rfl, hb1⟩
    have hB1 := hB.trans (hb1.mono hB.size)
    have hrg1 := (bB.below hb1 bB.lt).range
    have HF1 := Lib.hid (HF.out.below hb1)
    have HP1 := Lib.hid (HP.out.below hb1)
    have HL1 := Lib.hid (HL.out.below hb1)
    clear hrg bB HF HP HL hB hb1
    go_wp2_with (refine ldm_bo hrg1 (by rfl) _ rfl rfl (Hid.out ?_))
    refine Lib.hid ?_
    go_wp2_with fail
    refine (HR.out _ HF1.out HP1.out HL1.out).mono ?_
    rintro e w2 ⟨rfl, hb2⟩
    go_wp2
    go_ret2
    exact ⟨rfl, hB1.trans (hb2.mono hB1.size)⟩

set_option maxRecDepth 100000 in
set_option maxHeartbeats 4000000 in
theorem rWaste_b (b : Ne.Bo) (A B C : Option Addr) (ps : List Ne.Pa) (pl : List Ne.Pc) (f fc m c' n c'' : Nat) (hf : b.fs.length = f) (hm : ps.length = m) (hn : pl.length = n) (hfM : f ≤ maxLen) (hmM : m ≤ maxLen) (hcap : n ≤ c'') (R E : Int) (hE : Ne.wsA b ps pl = (R, E))
    (w : World) (hF : Rows Ne.rcL 4 w A b.fs) (hP : Ne.PaM w B ps) (hL : Rows Ne.pcL 4 w C pl) :
    Calls Try.prog 32 #[.agg (boW b A f fc), .slice B m c', .slice C n c''] w fun e w' => e = .returned (.tuple #[.int .i64 R, .int .i64 E]) ∧ Below w.heap.size w w' := by
  have hB := (Below.refl w.heap.size w).alloc (Nat.le_refl _) (.cells (boW b A f fc) 33)
  have bB := Blk.new w 33 (boW b A f fc)
  have hrg := bB.range
  obtain ⟨I0, E0, hK⟩ : ∃ I0 E0, Ne.ckA b ps pl = (I0, E0) := ⟨_, _, rfl⟩
  have HC := Lib.hid (fun W h h' h'' => rCheck_b b A B C ps pl f fc m c' n c'' hf hm hn hfM hmM hcap I0 E0 hK W h h' h'')
  have HF := Lib.hid (hF.below hB)
  have HP := Lib.hid (hP.below hB)
  have HL := Lib.hid (hL.below hB)
  have HM := Lib.hid hm
  have HN := Lib.hid hn
  unfold Ne.wsA at hE
  by_cases h0 : E0 = 0
  · subst h0
    have hok := Ne.ckA_ok (b := b) (ps := ps) (pl := pl) (by rw [hK])
    rw [hK, if_pos rfl, hn] at hE
    have HEE : Hid (R = Ne.wsK b ps pl n ∧ E = 0) := Lib.hid (by cases hE; exact ⟨rfl, rfl⟩)
    rw [hn] at hok
    obtain ⟨hvb, hvp⟩ := Ne.vAll_and hok.1
    have hn2 := hok.2.1
    have HLS := Lib.hid (fun k (hk : k < n) => Ne.rg_ls (by have := hok.2.2.1 k hk; unfold Ne.rgI at this; exact this))
    have HVP := Lib.hid hvp
    obtain ⟨⟨bw1, bw2⟩, ⟨bh1, bh2⟩, _, _, _⟩ := Ne.vBo_in hvb
    obtain ⟨M, hM⟩ : ∃ M, 2 * b.w * b.h = M := ⟨_, rfl⟩
    obtain ⟨m1, m2⟩ := mul_bd (a := 2 * b.w) (b := b.h) (A := 120000) (B := 60000) (by omega) (by omega) (by omega) (by omega)
    rw [hM] at m1 m2
    have hwr : IntKind.i64.wrap (2 * b.w * b.h) = M := by rw [hM]; exact IntWalk.i64_in _ (by omega)
    have HW0 : Hid (M = Ne.wsK b ps pl 0) := Lib.hid hM.symm
    clear hE hK hok hvb hvp hF hP hL hf hm hn hM hcap
    go_enter Try.func32, Try.ntmps32
    go_wp2_with (refine ldm_bo hrg (by rfl) _ rfl rfl (Hid.out ?_))
    refine Lib.hid ?_
    go_wp2_with fail
    refine (HC.out _ HF.out HP.out HL.out).mono ?_
    rintro e w1 ⟨rfl, hb1⟩
    have hB1 := hB.trans (hb1.mono hB.size)
    have bB1 := bB.below hb1 bB.lt
    have p0 := bB1.cell 0
    have p1 := bB1.cell 1
    simp only [List.getElem?_toArray, List.getElem?_cons_zero, List.getElem?_cons_succ] at p0 p1
    have HP1 := Lib.hid (HP.out.below hb1)
    have HL1 := Lib.hid (HL.out.below hb1)
    clear hrg bB HF HP HL hB hb1
    go_wp2
    clear p0 p1 hwr
    go_loopw [10, 31] (fun v i wr => ∃ (k : Nat) (x : Int), k ≤ n ∧ i = .int .i64 k ∧ v = .int .i64 x ∧ x = Ne.wsK b ps pl k ∧ (-(8000000000 + 3200000000 * (k : Int)) ≤ x ∧ x ≤ 8000000000 + 3200000000 * (k : Int)) ∧ Below w1.heap.size w1 wr) (fun _ i _ => n - (intOf i).toNat)
    case atStart => exact ⟨0, M, Nat.zero_le _, rfl, rfl, HW0.out, by omega, Below.refl _ _⟩
    case round =>
      obtain ⟨k, x, hk, rfl, rfl, hx, ⟨xb1, xb2⟩, hb⟩ := hrel
      have HX := Lib.hid hx
      clear hx
      by_cases hlt : k < n
      · obtain ⟨gq, oq, hCe, hg, hc⟩ := (HL1.out.below hb).at (z := Ne.zc) (by rw [HN.out]; omega)
        subst hCe
        have hck := hc k (by rw [HN.out]; exact hlt)
        obtain ⟨p, hp⟩ : ∃ p, pl.getD k Ne.zc = p := ⟨_, rfl⟩
        rw [hp] at hck
        have hls := HLS.out k hlt
        rw [hp] at hls
        obtain ⟨_, _, i, ei, hi⟩ := Ne.lsB_ok hls
        rw [HM.out] at hi
        have hval := valid_of (Ne.vPa_at HVP.out (q := i) (by rw [HM.out]; exact hi))
        obtain ⟨pp, px, py, pt⟩ := p
        dsimp only at ei
        subst ei
        obtain ⟨g2, o2, hBe, hg2, hc2⟩ := (HP1.out.below hb).open (by rw [HM.out]; omega)
        subst hBe
        obtain ⟨D, dc, d1, _, d3, _⟩ := hc2 i (by rw [HM.out]; exact hi)
        obtain ⟨oo, hoo⟩ : ∃ oo, (ps.getD i Ne.za).o = oo := ⟨_, rfl⟩
        rw [hoo] at d1 d3 hval
        obtain ⟨N, hN⟩ : ∃ N, oo.length = N := ⟨_, rfl⟩
        rw [hN] at d1
        have h3 := hval.1
        have h64 := hval.2.1
        rw [hN] at h3 h64
        obtain ⟨K, hK⟩ : ∃ K, Geo.areaK oo oo.length = K := ⟨_, rfl⟩
        have hkb := Ne.area_bd hval N h64
        rw [← hN, hK, hN] at hkb
        have HS : Hid (x - K = Ne.wsK b ps pl (k + 1)) := Lib.hid (by
          rw [Ne.wsK, ← HX.out, hp]; unfold Ne.arI; dsimp only; rw [Int.toNat_natCast, hoo, hK])
        have HTW : Hid (∀ W, Pts W D oo → Calls Try.prog 70 #[.slice D N dc] W fun e w' => e = .returned (.int .i64 K) ∧ Below W.heap.size W w') := Lib.hid (fun W hW => by
          obtain ⟨b3, off3, rfl, hb3, hc3⟩ := pts_open hW (by omega)
          have H := twice_any b3 off3 dc oo (by omega) (by omega) hval.allin W hb3 hc3
          rw [hK, hN] at H
          exact H)
        obtain ⟨kb1, kb2⟩ := hkb
        have hb2 := hb.alloc hb.size (.cells (Ne.pcL ⟨i, px, py, pt⟩).toArray 40)
        have bN := Blk.new wr 40 (Ne.pcL ⟨i, px, py, pt⟩).toArray
        have q0 := bN.cell 0
        simp only [List.getElem?_toArray, List.getElem?_cons_zero] at q0
        have hba := (Below.refl wr.heap.size wr).alloc (Nat.le_refl _) (.cells (Ne.pcL ⟨i, px, py, pt⟩).toArray 40)
        have dd := (hba.cell (p := ⟨g2, o2 + i * 2, none⟩) hg2).trans d1
        have HD := Lib.hid (d3.below hba)
        have hlm : (i : Int) < (m : Int) := by omega
        clear hc hc2 hp hls hval hoo hN hK d1 d3 hba bN
        go_wp2_with (refine ldm_pc hck (by rfl) _ rfl rfl (Hid.out ?_))
        refine Lib.hid ?_
        go_wp2_with fail
        refine (HTW.out _ HD.out).mono ?_
        rintro e w2 ⟨rfl, hb3⟩
        have hb4 := hb2.trans (hb3.mono hb2.size)
        go_wp2
        go_roundw
        case rel => exact ⟨k + 1, x - K, by omega, by go_num, rfl, HS.out, by omega, hb4⟩
        case measure => simp [intOf]; omega
      · obtain rfl : n = k := by omega
        go_wp2
        go_ret2
        exact ⟨by rw [HEE.out.1, HEE.out.2, HX.out]; rfl, hB1.trans (hb.mono hB1.size)⟩
  · rw [hK, if_neg h0] at hE
    have HEE : Hid (R = 0 ∧ E = E0) := Lib.hid (by cases hE; exact ⟨rfl, rfl⟩)
    have hne : (E0 == 0) = false := by simp; exact h0
    clear hE hK hF hP hL hf hm hn hcap
    go_enter Try.func32, Try.ntmps32
    go_wp2_with (refine ldm_bo hrg (by rfl) _ rfl rfl (Hid.out ?_))
    refine Lib.hid ?_
    go_wp2_with fail
    refine (HC.out _ HF.out HP.out HL.out).mono ?_
    rintro e w1 ⟨rfl, hb1⟩
    have hB1 := hB.trans (hb1.mono hB.size)
    go_wp2
    go_ret2
    exact ⟨by rw [HEE.out.1, HEE.out.2]; rfl, hB1⟩
end Go.Proofs.Ytlikmlhlfbdchaa
