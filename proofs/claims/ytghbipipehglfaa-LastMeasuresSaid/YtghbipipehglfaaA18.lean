/- Spread: the program's. -/
import Derived.Test.YtghbipipehglfaaA12
import Derived.Test.YtghbipipehglfaaP5
namespace Go.Proofs.Ytghbipipehglfaa
open Go.RowKit Go.Shelf

theorem values_any (a : Option Addr) (len cap : Nat) (w : World) :
    Calls Try.prog 39 #[.slice a len cap] w fun e w' => e = .returned (.func (.func 51) #[] #[.pointer (some ⟨w.heap.size, 0, none⟩)]) ∧ w' = w.alloc (.cells #[.slice a len cap] 32) :=
  (callsIn_wide (n := 1)).1 (values_in 1 a len cap w)
/-- what Spread has when k values have come -/
def spF (x : Int) (hx : 0 ≤ x) (zs : List Int) (k : Nat) : List Int := (Pl.sprdW x hx).all (zs.take k)
theorem spF_succ (x : Int) (hx : 0 ≤ x) (zs : List Int) {k : Nat} (hk : k < zs.length) : spF x hx zs (k + 1) = (Pl.sprdW x hx).one (spF x hx zs k) (zs.getD k 0) := by
  unfold spF
  have : zs.take (k + 1) = zs.take k ++ [zs.getD k 0] := by
    rw [List.take_succ_eq_append_getElem hk, List.getD_eq_getElem?_getD, List.getElem?_eq_getElem hk]; rfl
  rw [this, Pl.Way.all_snoc]
theorem spF_len (x : Int) (hx : 0 ≤ x) (zs : List Int) (k : Nat) : (spF x hx zs k).length ≤ k := by
  have := (Pl.sprdW x hx).all_len (zs.take k)
  have h2 : (zs.take k).length ≤ k := List.length_take_le ..
  unfold spF
  omega
theorem spF_mem {x : Int} {hx : 0 ≤ x} {zs : List Int} {k : Nat} {s : Int} (h : s ∈ spF x hx zs k) : s ∈ zs := List.mem_of_mem_take (Pl.sprd_all_mem h)
/-- what Spread gives -/
def sprdV (x : Int) (vs : List Int) : List Int := if Pl.lineE vs x [] = 0 then Pl.sprdT x vs else []

set_option maxRecDepth 100000 in
set_option maxHeartbeats 4000000 in
theorem spread_any (A : Option Addr) (vs : List Int) (c : Nat) (x : Int) (w : World) (hI : Ints w A vs) :
    Calls Try.prog 21 #[.slice A vs.length c, .int .i64 x] w fun e w' => ∃ v, e = .returned (.tuple #[v, .int .i64 (Pl.lineE vs x [])]) ∧ w'.ownsRow w.heap.size 3 1 v (sprdV x vs).length (ints (sprdV x vs)) ∧ Below w.heap.size w w' := by
  have HI := Lib.hid hI
  clear hI
  rcases Pl.lineE_three vs x [] with h0 | h0 | h0
  rotate_left
  iterate 2
    · have HR := Lib.hid h0
      have HS : Hid (sprdV x vs = []) := Lib.hid (if_neg (by rw [h0]; decide))
      rw [h0]
      clear h0
      go_enter Try.func21, Try.ntmps21
      go_wp2_with (go_at_call 36; refine (checkline_any A none vs [] c 0 x _ HI.out (Ints.nil _ _)).mono ?_; rw [HR.out]; rintro e w' ⟨rfl, rfl⟩)
      go_ret2
      exact ⟨_, rfl, by rw [HS.out]; exact World.ownsRow_nil _ _ _ _, Below.refl _ _⟩
  · obtain ⟨hl200, _, hvs, _, hx0, hx1⟩ := Pl.lineE_zero h0
    have HV := Lib.hid hvs
    have H0 := Lib.hid h0
    rw [h0, show sprdV x vs = Pl.sprdT x vs from if_pos h0]
    clear hvs h0
    have hB1 : Below w.heap.size w (w.alloc (.cells #[.slice A vs.length c] 32)) := (Below.refl _ w).alloc (Nat.le_refl _) _
    have bV := Blk.new w 32 #[.slice A vs.length c]
    have HVal := Lib.hid (sortedv_any _ A c vs (by omega) _ bV (HI.out.below hB1))
    clear bV
    go_enter Try.func21, Try.ntmps21
    go_wp2_with (first
      | (go_at_call 36; refine (checkline_any A none vs [] c 0 x _ HI.out (Ints.nil _ _)).mono ?_; rw [H0.out]; rintro e w' ⟨rfl, hw'⟩; obtain rfl : w = w' := hw'.symm)
      | (go_at_call 39; refine (values_any _ _ _ _).mono ?_; rintro e w' ⟨rfl, rfl⟩)
      | (go_at_call 38; refine HVal.out.mono ?_; rintro e w4 ⟨vz, rfl, hownz, hb4⟩; obtain ⟨Az, cz, rfl⟩ := own_slice hownz))
    have hbel4 : Below w.heap.size w w4 := hB1.trans (hb4.mono (by simp))
    obtain ⟨zs, hzs⟩ : ∃ zs, zs = Pl.srt vs := ⟨_, rfl⟩
    have hzl : zs.length = vs.length := by rw [hzs, Pl.srt_len]
    have hII := ints_of_owns' hownz hzl.symm (by rw [hzs])
    have HZB : Hid (∀ s, s ∈ zs → -1000000 ≤ s ∧ s ≤ 1000000) := Lib.hid (fun s hs => HV.out _ ((Pl.srt_mem vs _).1 (hzs ▸ hs)))
    have HFIN : Hid (spF x hx0 zs zs.length = Pl.sprdT x vs) := Lib.hid (by unfold spF; rw [List.take_length, hzs, Pl.sprdT_eq hx0])
    have HII := Lib.hid hII
    have HZL := Lib.hid hzl
    have hll : zs.length ≤ 200 := by omega
    rw [← hzl]
    clear hzs hownz hb4 hB1 HVal hII hzl hl200
    go_loopw [7, 9, 20] (fun v _ i wr => ∃ k : Nat, k ≤ zs.length ∧ i = .int .i64 k ∧ wr.ownsRow w4.heap.size 3 1 v (spF x hx0 zs k).length (ints (spF x hx0 zs k)) ∧ Below w4.heap.size w4 wr) (fun _ _ i _ => zs.length - (intOf i).toNat)
    case atStart => exact ⟨0, Nat.zero_le _, rfl, World.ownsRow_nil _ _ _ _, Below.refl _ _⟩
    case round =>
      obtain ⟨k, hk, rfl, hown, hB⟩ := hrel
      by_cases hlt : k < zs.length
      · obtain ⟨bz, oz, rfl, hcz⟩ : ∃ bb off, Az = some ⟨bb, off, none⟩ ∧ wr.cell? ⟨bb, off + k, none⟩ = some (.int .i64 (zs.getD k 0)) := by
          rcases HII.out.below hB with h | ⟨bb, off, he, _, hc⟩
          · rw [h] at hlt; simp at hlt
          · exact ⟨bb, off, he, hc k hlt⟩
        have HSN := Lib.hid (spF_succ x hx0 zs hlt)
        have hln := spF_len x hx0 zs k
        obtain ⟨a1, a2⟩ := HZB.out _ (Pl.getD_mem hlt)
        have HMEM : Hid (∀ s, s ∈ spF x hx0 zs k → -1000000 ≤ s ∧ s ≤ 1000000) := Lib.hid (fun s hs => HZB.out s (spF_mem hs))
        generalize zs.getD k 0 = y at *
        generalize spF x hx0 zs k = q at *
        rcases List.eq_nil_or_concat q with rfl | ⟨p, s, rfl⟩
        · obtain ⟨A1, c1, rfl⟩ := own_slice hown
          have HQ : Hid ((Pl.sprdW x hx0).one [] y = [] ++ [y]) := Lib.hid (if_pos rfl)
          simp only [List.length_nil] at hown
          go_wp2_with (at_builtin; refine ap_int (l := []) (n := y) (hown.alloc _) rfl _ _ rfl rfl _ rfl ((Blk.new _ _ _).cell 0) (by simp) (by have := hB.size; simp; omega) ?_; intro v' w3 hown' hgrow; have hB2 := (hB.alloc hB.size _).grown hgrow (by have := hB.size; simp; omega) (fun k e => (hown.lt k e).1))
          go_roundw
          case rel => exact ⟨k + 1, by omega, by go_num, by rw [HSN.out, HQ.out]; exact hown', hB2⟩
          case measure => simp [intOf]; omega
        · rw [List.concat_eq_append] at *
          have hown0 := hown
          have hpl : (p ++ [s]).length = p.length + 1 := by simp
          rw [hpl] at hown hln
          obtain ⟨g, cap, rfl⟩ := ownsRow_succ hown
          obtain ⟨s1, s2⟩ := HMEM.out s (by simp)
          have hcs : wr.cell? ⟨g, p.length, none⟩ = some (.int .i64 s) := by
            rw [hown.cellAt p.length (by omega)]
            simp [ints]
          have HOWN : Hid (wr.ownsRow w4.heap.size 3 1 (.slice (some ⟨g, 0, none⟩) (p.length + 1) cap) (p ++ [s]).length (ints (p ++ [s]))) := Lib.hid (by rw [hpl]; exact hown)
          clear hpl hown hown0
          have hpe : ((p.length : Int) + 1 == 0) = false := by simp; omega
          by_cases hys : s + x < y
          · have HQ : Hid ((Pl.sprdW x hx0).one (p ++ [s]) y = p ++ [s] ++ [y]) := Lib.hid (by
              unfold Pl.Way.one; rw [List.getLast?_concat, if_pos (by simp [Pl.sprdW, hys])]; rfl)
            have hpl2 : (p ++ [s]).length ≤ 100000 := by simp; omega
            go_wp2_with (at_builtin; refine ap_int (l := p ++ [s]) (n := y) (HOWN.out.alloc _) rfl _ _ rfl rfl _ rfl ((Blk.new _ _ _).cell 0) hpl2 (by have := hB.size; simp; omega) ?_; intro v' w3 hown' hgrow; have hB2 := (hB.alloc hB.size _).grown hgrow (by have := hB.size; simp; omega) (fun k e => (HOWN.out.lt k e).1))
            go_roundw
            case rel => exact ⟨k + 1, by omega, by go_num, by rw [HSN.out, HQ.out]; exact hown', hB2⟩
            case measure => simp [intOf]; omega
          · have hsy : y ≤ s + x := by omega
            have HQ : Hid ((Pl.sprdW x hx0).one (p ++ [s]) y = p ++ [s]) := Lib.hid (by
              unfold Pl.Way.one; rw [List.getLast?_concat, if_neg (by simp [Pl.sprdW]; omega)])
            clear hys
            go_wp2
            go_roundw
            case rel => exact ⟨k + 1, by omega, by go_num, by rw [HSN.out, HQ.out]; exact HOWN.out, hB⟩
            case measure => simp [intOf]; omega
      · obtain rfl : k = zs.length := by omega
        go_wp2
        go_ret2
        exact ⟨_, rfl, by rw [← HFIN.out]; exact own_mono hown hbel4.size, hbel4.trans (hB.mono hbel4.size)⟩
end Go.Proofs.Ytghbipipehglfaa
