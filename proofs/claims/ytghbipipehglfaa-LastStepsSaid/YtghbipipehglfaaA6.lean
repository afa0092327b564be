/- Need, Fits, Faults: the program's and the document's. -/
import Derived.Test.YtghbipipehglfaaA5
namespace Go.Proofs.Ytghbipipehglfaa
open Go.RowKit Go.Shelf

set_option maxRecDepth 100000 in
set_option maxHeartbeats 2000000 in
theorem single_b (s : Pl.Sz) (h : Pl.Hd) (v : Int) (hv : Pl.cp s h = v) (w : World) :
    Calls Try.prog 28 #[.agg (szA s), .agg (hdA h)] w fun e w' => e = .returned (.int .i64 v) ∧ Below w.heap.size w w' := by
  have hB0 := ((Below.refl w.heap.size w).alloc (Nat.le_refl _) (.cells (szA s) 24)).alloc (by simp) (.cells (hdA h) 26)
  have bS := (Blk.new w 24 (szA s)).alloc (.cells (hdA h) 26)
  have bH := Blk.new (w.alloc (.cells (szA s) 24)) 26 (hdA h)
  rw [World.size_alloc] at bH
  have hbl := bH.lt
  cases hs : Pl.vsz s with
  | false =>
    have e31 := cp_size (h := h) hs
    have hv' : v = 31 := hv.symm.trans e31
    subst hv'
    have HS := Lib.hid hs
    clear hv hs e31
    go_enter Try.func28, Try.ntmps28
    go_wp2_with (first | refine ld_size bS rfl _ rfl rfl ?_ | (go_at_call 35; refine (rvsize_b s false HS.out _).mono ?_; rintro e w1 ⟨rfl, hb1⟩))
    go_ret
    exact ⟨rfl, hB0.trans (hb1.mono hB0.size)⟩
  | true =>
    obtain ⟨b, hh⟩ : ∃ b, Pl.vh h = b := ⟨_, rfl⟩
    have hv' : v = if b = true then 0 else 30 := by
      rw [← hv]; unfold Pl.cp; rw [if_pos hs, hh]
    have HS := Lib.hid hs
    have HH := Lib.hid hh
    have HV := Lib.hid hv'
    clear hv hs hh hv'
    cases b <;>
    (go_enter Try.func28, Try.ntmps28
     go_wp2_with (first | refine ld_size bS rfl _ rfl rfl ?_ | (go_at_call 35; refine (rvsize_b s true HS.out _).mono ?_; rintro e w1 ⟨rfl, hb1⟩; have hB1 := hB0.trans (hb1.mono hB0.size); have bH1 := bH.below hb1 hbl) | refine ld_head bH1 rfl _ rfl rfl ?_ | (go_at_call 45; refine (rvhead_b h _ HH.out _).mono ?_; rintro e w2 ⟨rfl, hb2⟩))
     go_ret
     exact ⟨by rw [HV.out]; rfl, hB1.trans (hb2.mono hB1.size)⟩)

set_option maxRecDepth 100000 in
set_option maxHeartbeats 2000000 in
theorem fits_any (s : Pl.Sz) (h : Pl.Hd) (hs : Pl.vsz s = true) (hh : Pl.vh h = true) (w : World) :
    Calls Try.prog 30 #[.agg (szA s), .agg (hdA h)] w fun e w' => e = .returned (.bool (Pl.fit s h)) ∧ Below w.heap.size w w' := by
  have HS := Lib.hid hs
  have HH := Lib.hid hh
  have hfl := Pl.flt_len s h
  have HF : Hid (Pl.fit s h = (((Pl.flt s h).length : Int) == 0)) := Lib.hid (by unfold Pl.fit; rw [Bool.eq_iff_iff]; simp)
  clear hs hh
  have hB0 := ((Below.refl w.heap.size w).alloc (Nat.le_refl _) (.cells (szA s) 24)).alloc (by simp) (.cells (hdA h) 26)
  have bS := (Blk.new w 24 (szA s)).alloc (.cells (hdA h) 26)
  have bH := Blk.new (w.alloc (.cells (szA s) 24)) 26 (hdA h)
  rw [World.size_alloc] at bH
  have hbl := bH.lt
  have hbs := bS.lt
  go_enter Try.func30, Try.ntmps30
  go_wp2_with (first | refine ld_size bS rfl _ rfl rfl ?_ | refine ld_head bH rfl _ rfl rfl ?_ | (go_at_call 31; refine (faults_any s h HS.out HH.out _).mono ?_; rintro e w1 ⟨v, rfl, hown, hb1⟩; obtain ⟨A, c, rfl, hI⟩ := ints_of_owns hown))
  go_ret
  refine ⟨?_, hB0.trans (hb1.mono hB0.size)⟩
  rw [HF.out]
  rfl

/-- what Faults gives -/
def fltV (s : Pl.Sz) (h : Pl.Hd) : List Int := if Pl.cp s h = 0 then Pl.flt s h else []
def fitV (s : Pl.Sz) (h : Pl.Hd) : Bool := if Pl.cp s h = 0 then Pl.fit s h else false
def ndV (s : Pl.Sz) (h : Pl.Hd) : Nat → Int := if Pl.cp s h = 0 then Pl.nd s h else fun _ => 0
theorem cp3 (s : Pl.Sz) (h : Pl.Hd) : Pl.cp s h = 0 ∨ Pl.cp s h = 30 ∨ Pl.cp s h = 31 := by
  unfold Pl.cp; split
  · split
    · exact .inl rfl
    · exact .inr (.inl rfl)
  · exact .inr (.inr rfl)
theorem fltV_len (s : Pl.Sz) (h : Pl.Hd) : (fltV s h).length ≤ 6 := by
  unfold fltV; split
  · exact Pl.flt_len s h
  · simp

set_option maxRecDepth 100000 in
set_option maxHeartbeats 2000000 in
theorem dfaults_any (s : Pl.Sz) (h : Pl.Hd) (w : World) :
    Calls Try.prog 13 #[.agg (szA s), .agg (hdA h)] w fun e w' => ∃ v, e = .returned (.tuple #[v, .int .i64 (Pl.cp s h)]) ∧ w'.ownsRow w.heap.size 3 1 v (fltV s h).length (ints (fltV s h)) ∧ Below w.heap.size w w' := by
  have hB0 := ((Below.refl w.heap.size w).alloc (Nat.le_refl _) (.cells (szA s) 24)).alloc (by simp) (.cells (hdA h) 26)
  have bS := (Blk.new w 24 (szA s)).alloc (.cells (hdA h) 26)
  have bH := Blk.new (w.alloc (.cells (szA s) 24)) 26 (hdA h)
  rw [World.size_alloc] at bH
  have hbl := bH.lt
  have hbs := bS.lt
  rcases cp3 s h with hc | hc | hc
  · obtain ⟨hs, hh⟩ := Pl.cp_ok.1 hc
    have HC := Lib.hid hc
    have HS := Lib.hid hs
    have HH := Lib.hid hh
    have HF : Hid (fltV s h = Pl.flt s h) := Lib.hid (if_pos hc)
    rw [hc]
    clear hs hh hc
    go_enter Try.func13, Try.ntmps13
    go_wp2_with (first | refine ld_size bS rfl _ rfl rfl ?_ | refine ld_head bH rfl _ rfl rfl ?_ | (go_at_call 26; refine (checkpair_b s h 0 HC.out _).mono ?_; rintro e w1 ⟨rfl, hb1⟩; have hB1 := hB0.trans (hb1.mono hB0.size); have bS1 := bS.below hb1 hbs; have bH1 := bH.below hb1 hbl; clear hb1) | refine ld_size bS1 rfl _ rfl rfl ?_ | refine ld_head bH1 rfl _ rfl rfl ?_ | (go_at_call 31; refine (faults_any s h HS.out HH.out _).mono ?_; rintro e w2 ⟨v, rfl, hown, hb2⟩))
    go_ret2
    exact ⟨v, rfl, by rw [HF.out]; exact own_mono hown hB1.size, hB1.trans (hb2.mono hB1.size)⟩
  all_goals
    have HC := Lib.hid hc
    have HF : Hid (fltV s h = []) := Lib.hid (if_neg (by rw [hc]; decide))
    rw [hc]
    clear hc
    go_enter Try.func13, Try.ntmps13
    go_wp2_with (first | refine ld_size bS rfl _ rfl rfl ?_ | refine ld_head bH rfl _ rfl rfl ?_ | (go_at_call 26; refine (checkpair_b s h _ HC.out _).mono ?_; rintro e w1 ⟨rfl, hb1⟩; have hB1 := hB0.trans (hb1.mono hB0.size); clear hb1))
    go_ret2
    exact ⟨_, rfl, by rw [HF.out]; exact World.ownsRow_nil _ _ _ _, hB1⟩

set_option maxRecDepth 100000 in
set_option maxHeartbeats 2000000 in
theorem rdfaults_any (s : Pl.Sz) (h : Pl.Hd) (w : World) :
    Calls Try.prog 14 #[.agg (szA s), .agg (hdA h)] w fun e w' => ∃ v, e = .returned (.tuple #[v, .int .i64 (Pl.cp s h)]) ∧ w'.ownsRow w.heap.size 3 1 v (fltV s h).length (ints (fltV s h)) ∧ Below w.heap.size w w' := by
  have hB0 := ((Below.refl w.heap.size w).alloc (Nat.le_refl _) (.cells (szA s) 24)).alloc (by simp) (.cells (hdA h) 26)
  have bS := (Blk.new w 24 (szA s)).alloc (.cells (hdA h) 26)
  have bH := Blk.new (w.alloc (.cells (szA s) 24)) 26 (hdA h)
  rw [World.size_alloc] at bH
  have hbl := bH.lt
  have hbs := bS.lt
  rcases cp3 s h with hc | hc | hc
  · obtain ⟨hs, hh⟩ := Pl.cp_ok.1 hc
    have HC := Lib.hid hc
    have HS := Lib.hid hs
    have HH := Lib.hid hh
    have HF : Hid (fltV s h = Pl.flt s h) := Lib.hid (if_pos hc)
    rw [hc]
    clear hs hh hc
    go_enter Try.func14, Try.ntmps14
    go_wp2_with (first | refine ld_size bS rfl _ rfl rfl ?_ | refine ld_head bH rfl _ rfl rfl ?_ | (go_at_call 28; refine (single_b s h 0 HC.out _).mono ?_; rintro e w1 ⟨rfl, hb1⟩; have hB1 := hB0.trans (hb1.mono hB0.size); have bS1 := bS.below hb1 hbs; have bH1 := bH.below hb1 hbl; clear hb1) | refine ld_size bS1 rfl _ rfl rfl ?_ | refine ld_head bH1 rfl _ rfl rfl ?_ | (go_at_call 32; refine (rfaults_any s h HS.out HH.out _).mono ?_; rintro e w2 ⟨v, rfl, hown, hb2⟩))
    go_ret2
    exact ⟨v, rfl, by rw [HF.out]; exact own_mono hown hB1.size, hB1.trans (hb2.mono hB1.size)⟩
  all_goals
    have HC := Lib.hid hc
    have HF : Hid (fltV s h = []) := Lib.hid (if_neg (by rw [hc]; decide))
    rw [hc]
    clear hc
    go_enter Try.func14, Try.ntmps14
    go_wp2_with (first | refine ld_size bS rfl _ rfl rfl ?_ | refine ld_head bH rfl _ rfl rfl ?_ | (go_at_call 28; refine (single_b s h _ HC.out _).mono ?_; rintro e w1 ⟨rfl, hb1⟩; have hB1 := hB0.trans (hb1.mono hB0.size); clear hb1))
    go_ret2
    exact ⟨_, rfl, by rw [HF.out]; exact World.ownsRow_nil _ _ _ _, hB1⟩

set_option maxRecDepth 100000 in
set_option maxHeartbeats 2000000 in
theorem dfits_any (s : Pl.Sz) (h : Pl.Hd) (w : World) :
    Calls Try.prog 11 #[.agg (szA s), .agg (hdA h)] w fun e w' => e = .returned (.tuple #[.bool (fitV s h), .int .i64 (Pl.cp s h)]) ∧ Below w.heap.size w w' := by
  have hB0 := ((Below.refl w.heap.size w).alloc (Nat.le_refl _) (.cells (szA s) 24)).alloc (by simp) (.cells (hdA h) 26)
  have bS := (Blk.new w 24 (szA s)).alloc (.cells (hdA h) 26)
  have bH := Blk.new (w.alloc (.cells (szA s) 24)) 26 (hdA h)
  rw [World.size_alloc] at bH
  have hbl := bH.lt
  have hbs := bS.lt
  rcases cp3 s h with hc | hc | hc
  · obtain ⟨hs, hh⟩ := Pl.cp_ok.1 hc
    have HC := Lib.hid hc
    have HS := Lib.hid hs
    have HH := Lib.hid hh
    rw [hc, show fitV s h = Pl.fit s h from if_pos hc]
    clear hs hh hc
    go_enter Try.func11, Try.ntmps11
    go_wp2_with (first | refine ld_size bS rfl _ rfl rfl ?_ | refine ld_head bH rfl _ rfl rfl ?_ | (go_at_call 26; refine (checkpair_b s h 0 HC.out _).mono ?_; rintro e w1 ⟨rfl, hb1⟩; have hB1 := hB0.trans (hb1.mono hB0.size); have bS1 := bS.below hb1 hbs; have bH1 := bH.below hb1 hbl; clear hb1) | refine ld_size bS1 rfl _ rfl rfl ?_ | refine ld_head bH1 rfl _ rfl rfl ?_ | (go_at_call 30; refine (fits_any s h HS.out HH.out _).mono ?_; rintro e w2 ⟨rfl, hb2⟩))
    go_ret2
    exact ⟨rfl, hB1.trans (hb2.mono hB1.size)⟩
  all_goals
    have HC := Lib.hid hc
    rw [hc, show fitV s h = false from if_neg (by rw [hc]; decide)]
    clear hc
    go_enter Try.func11, Try.ntmps11
    go_wp2_with (first | refine ld_size bS rfl _ rfl rfl ?_ | refine ld_head bH rfl _ rfl rfl ?_ | (go_at_call 26; refine (checkpair_b s h _ HC.out _).mono ?_; rintro e w1 ⟨rfl, hb1⟩; have hB1 := hB0.trans (hb1.mono hB0.size); clear hb1))
    go_ret2
    exact ⟨rfl, hB1⟩

set_option maxRecDepth 100000 in
set_option maxHeartbeats 2000000 in
theorem rdfits_any (s : Pl.Sz) (h : Pl.Hd) (w : World) :
    Calls Try.prog 12 #[.agg (szA s), .agg (hdA h)] w fun e w' => e = .returned (.tuple #[.bool (fitV s h), .int .i64 (Pl.cp s h)]) ∧ Below w.heap.size w w' := by
  have hB0 := ((Below.refl w.heap.size w).alloc (Nat.le_refl _) (.cells (szA s) 24)).alloc (by simp) (.cells (hdA h) 26)
  have bS := (Blk.new w 24 (szA s)).alloc (.cells (hdA h) 26)
  have bH := Blk.new (w.alloc (.cells (szA s) 24)) 26 (hdA h)
  rw [World.size_alloc] at bH
  have hbl := bH.lt
  have hbs := bS.lt
  have hfl := fltV_len s h
  obtain ⟨b, hb⟩ : ∃ b, decide ((fltV s h).length = 0) = b := ⟨_, rfl⟩
  have hfit : Pl.cp s h = 0 → fitV s h = b := fun hc => by
    rw [← hb]
    unfold fitV fltV Pl.fit
    rw [if_pos hc, if_pos hc]
  have hfit2 : Pl.cp s h ≠ 0 → fitV s h = false := fun hc => if_neg hc
  have HF := Lib.hid hfit
  have HF2 := Lib.hid hfit2
  have hb2 : (((fltV s h).length : Int) == 0) = b := by rw [← hb, Bool.eq_iff_iff]; simp
  have HB2 := Lib.hid hb2
  have HB := Lib.hid hb
  clear hfit hfit2 hb hb2
  obtain ⟨q, hq⟩ : ∃ q, fltV s h = q := ⟨_, rfl⟩
  obtain ⟨x, hx⟩ : ∃ x, fitV s h = x := ⟨_, rfl⟩
  have HQ := Lib.hid hq
  rw [hq] at hfl HB HB2
  rw [hx] at HF HF2 ⊢
  clear hq hx
  rcases cp3 s h with hc | hc | hc
  · have hxb : x = b := HF.out hc
    subst hxb
    have HC := Lib.hid hc
    rw [hc]
    clear hc
    go_enter Try.func12, Try.ntmps12
    go_wp2_with (first | refine ld_size bS rfl _ rfl rfl ?_ | refine ld_head bH rfl _ rfl rfl ?_ | (go_at_call 14; refine (rdfaults_any s h _).mono ?_; rintro e w2 ⟨v, rfl, hown, hb2⟩; rw [HQ.out] at hown; obtain ⟨A, c, rfl, hI⟩ := ints_of_owns hown; rw [HC.out]))
    go_ret2
    refine ⟨?_, hB0.trans (hb2.mono hB0.size)⟩
    rw [← HB2.out]
    rfl
  all_goals
    have hxf : x = false := HF2.out (by rw [hc]; decide)
    subst hxf
    have HC := Lib.hid hc
    rw [hc]
    clear hc
    go_enter Try.func12, Try.ntmps12
    go_wp2_with (first | refine ld_size bS rfl _ rfl rfl ?_ | refine ld_head bH rfl _ rfl rfl ?_ | (go_at_call 14; refine (rdfaults_any s h _).mono ?_; rintro e w2 ⟨v, rfl, hown, hb2⟩; rw [HQ.out] at hown; obtain ⟨A, c, rfl, hI⟩ := ints_of_owns hown; rw [HC.out]))
    go_ret2
    exact ⟨rfl, hB0.trans (hb2.mono hB0.size)⟩
end Go.Proofs.Ytghbipipehglfaa
