/- fits, the program's and the document's; both lists at once. -/
import Derived.Test.YtghbipipehglfaaDoorA5
import Derived.Test.YtghbipipehglfaaDoorB3
namespace Go.Proofs.YtghbipipehglfaaDoor
open Go.RowKit Go.Shelf

set_option maxRecDepth 100000 in
set_option maxHeartbeats 2000000 in
theorem fits_any (s : Pl.Sz) (h : Pl.Hd) (hs : Pl.vsz s = true) (hh : Pl.vh h = true) (w : World) :
    Calls Tryd.prog 43 #[.agg (szA s), .agg (hdA h)] w fun e w' => e = .returned (.bool (Pl.fit s h)) ∧ Below w.heap.size w w' := by
  have HS := Lib.hid hs
  have HH := Lib.hid hh
  have hfl := Pl.flt_len s h
  have HF : Hid (Pl.fit s h = (((Pl.flt s h).length : Int) == 0)) := Lib.hid (by unfold Pl.fit; rw [Bool.eq_iff_iff]; simp)
  clear hs hh
  have hB0 := ((Below.refl w.heap.size w).alloc (Nat.le_refl _) (.cells (szA s) 46)).alloc (by simp) (.cells (hdA h) 34)
  have bS := (Blk.new w 46 (szA s)).alloc (.cells (hdA h) 34)
  have bH := Blk.new (w.alloc (.cells (szA s) 46)) 34 (hdA h)
  rw [World.size_alloc] at bH
  have hbl := bH.lt
  have hbs := bS.lt
  go_enter Tryd.func43, Tryd.ntmps43
  go_wp2_with (first | refine ld_size bS rfl _ rfl rfl ?_ | refine ld_head bH rfl _ rfl rfl ?_ | (go_at_call 77; refine (faults_any s h HS.out HH.out _).mono ?_; rintro e w1 ⟨v, rfl, hown, hb1⟩; obtain ⟨A, c, rfl, hI⟩ := ints_of_owns hown))
  go_ret
  refine ⟨?_, hB0.trans (hb1.mono hB0.size)⟩
  rw [HF.out]
  rfl

/-- what Faults gives -/
def fltV (s : Pl.Sz) (h : Pl.Hd) : List Int := if Pl.cp s h = 0 then Pl.flt s h else []
def fitV (s : Pl.Sz) (h : Pl.Hd) : Bool := if Pl.cp s h = 0 then Pl.fit s h else false
def ndV (s : Pl.Sz) (h : Pl.Hd) : Nat → Int := if Pl.cp s h = 0 then Pl.nd s h else fun _ => 0

set_option maxRecDepth 100000 in
set_option maxHeartbeats 2000000 in
theorem rfits_any (s : Pl.Sz) (h : Pl.Hd) (hs : Pl.vsz s = true) (hh : Pl.vh h = true) (w : World) :
    Calls Tryd.prog 42 #[.agg (szA s), .agg (hdA h)] w fun e w' => e = .returned (.bool (Pl.fit s h)) ∧ Below w.heap.size w w' := by
  have HS := Lib.hid hs
  have HH := Lib.hid hh
  have hfl := Pl.flt_len s h
  have HF : Hid (Pl.fit s h = (((Pl.flt s h).length : Int) == 0)) := Lib.hid (by unfold Pl.fit; rw [Bool.eq_iff_iff]; simp)
  clear hs hh
  have hB0 := ((Below.refl w.heap.size w).alloc (Nat.le_refl _) (.cells (szA s) 46)).alloc (by simp) (.cells (hdA h) 34)
  have bS := (Blk.new w 46 (szA s)).alloc (.cells (hdA h) 34)
  have bH := Blk.new (w.alloc (.cells (szA s) 46)) 34 (hdA h)
  rw [World.size_alloc] at bH
  have hbl := bH.lt
  have hbs := bS.lt
  go_enter Tryd.func42, Tryd.ntmps42
  go_wp2_with (first | refine ld_size bS rfl _ rfl rfl ?_ | refine ld_head bH rfl _ rfl rfl ?_ | (go_at_call 76; refine (rfaults_any s h HS.out HH.out _).mono ?_; rintro e w1 ⟨v, rfl, hown, hb1⟩; obtain ⟨A, c, rfl, hI⟩ := ints_of_owns hown))
  go_ret
  refine ⟨?_, hB0.trans (hb1.mono hB0.size)⟩
  rw [HF.out]
  rfl

/-- the error of two lists -/
def bothE (ss : List Pl.Sz) (hs : List Pl.Hd) : Int := if Pl.vszs ss = true then (if Pl.vhds hs = true then 0 else 30) else 31
set_option maxRecDepth 100000 in
set_option maxHeartbeats 2000000 in
theorem both_any (A B : Option Addr) (ss : List Pl.Sz) (hs : List Pl.Hd) (c d : Nat) (w : World) (h1 : ss.length ≤ c) (h2 : ss.length ≤ 9223372036854775807) (h3 : hs.length ≤ d) (h4 : hs.length ≤ 9223372036854775807) (hI : Szs w A ss) (hJ : Hds w B hs) :
    Calls Tryd.prog 41 #[.slice A ss.length c, .slice B hs.length d] w fun e w' => e = .returned (.int .i64 (bothE ss hs)) ∧ Below w.heap.size w w' := by
  have H1 := Lib.hid (rvalid_sizes A ss c w h1 h2 hI)
  have H2 := Lib.hid (fun w' (hb : Below w.heap.size w w') => rvalid_heads B hs d w' h3 h4 (hJ.below hb))
  obtain ⟨u, hu⟩ : ∃ u, Pl.vszs ss = u := ⟨_, rfl⟩
  obtain ⟨v, hv⟩ : ∃ v, Pl.vhds hs = v := ⟨_, rfl⟩
  have HE : Hid (bothE ss hs = if u = true then (if v = true then 0 else 30) else 31) := Lib.hid (by unfold bothE; rw [hu, hv])
  rw [hu] at H1
  rw [hv] at H2
  clear hu hv hI hJ
  generalize bothE ss hs = E at *
  go_enter Tryd.func41, Tryd.ntmps41
  go_wp2_with fail
  refine H1.out.mono ?_
  rintro e w1 ⟨rfl, hb1⟩
  cases u with
  | false =>
    go_wp2
    go_ret
    exact ⟨by rw [HE.out]; rfl, hb1⟩
  | true =>
    go_wp2_with fail
    refine (H2.out _ hb1).mono ?_
    rintro e w2 ⟨rfl, hb2⟩
    have hB2 := hb1.trans (hb2.mono hb1.size)
    cases v <;>
    (go_wp2
     go_ret
     exact ⟨by rw [HE.out]; rfl, hB2⟩)
end Go.Proofs.YtghbipipehglfaaDoor
