/- proof, Proof, of the program. -/
import Derived.Test.YtlfbfdhdkccaeaaGreatN1
import Derived.Test.YtlfbfdhdkccaeaaGreatPZ
import Derived.Sort.OwnSortedInts
namespace Go.Proofs.YtlfbfdhdkccaeaaGreat
open Go.RowKit Go.Shelf

theorem flt_ircI (d : List Nat) : flt irc d = (d.map (fun n : Nat => (n : Int))).map (Value.int .i64) := by
  induction d with
  | nil => rfl
  | cons x d ih => rw [flt_cons, ih]; rfl
/-- the program's own sorted list -/
theorem sort_ints (B : Nat) (v : Value) (d T : List Nat) (n : Nat) (hn : d.length = n) (h60 : n ≤ 60) (hT : (d.map (fun n : Nat => (n : Int))).mergeSort (fun x y => decide (x ≤ y)) = T.map (fun n : Nat => (n : Int))) (w : World)
    (hown : w.ownsRow B 3 1 v n (flt irc d)) :
    Calls Tryz.prog 19 #[v] w fun e w' => e = .returned (.tuple #[]) ∧ w'.ownsRow B 3 1 v n (flt irc T) ∧ Below B w w' := by
  subst hn
  have hlen : T.length = d.length := by
    have := congrArg List.length hT
    simp [List.length_mergeSort] at this
    omega
  have hh := hown
  rcases hown with ⟨h0, ⟨rfl, h1⟩ | ⟨g, cap, cur, rfl, hbase, hb, h1, h2, h3, h4⟩⟩
  · have eT : T = [] := List.eq_nil_of_length_eq_zero (by omega)
    subst eT
    have ed : d = [] := List.eq_nil_of_length_eq_zero h1
    subst ed
    refine (Tryz.slices_Sort_int_none none 0 w).mono fun e w' ⟨he, hw⟩ => ⟨he, ?_⟩
    subst hw
    exact ⟨hh, Below.refl _ _⟩
  · have hg : g < w.heap.size := (hh.lt g rfl).2
    have hH := holds_of_blockI (ss := d.map (fun n : Nat => (n : Int))) hb (by rw [List.length_map, ← flt_ircI, ← h4, Nat.mul_one])
    have hcon := Tryz.slices_Sort_int g 0 cap (d.map (fun n : Nat => (n : Int))) w hH hg (by rw [List.length_map]; omega)
    rw [List.length_map] at hcon
    refine hcon.mono fun e w' ⟨he, k, os, hw⟩ => ⟨he, ?_⟩
    rw [hw, hT]
    have ho := ownsRow_sortedI (n := k) (os := os) (ss := d.map (fun n : Nat => (n : Int))) (ts := T.map (fun n : Nat => (n : Int))) (by rw [List.length_map, List.length_map, hlen]) hbase hb (by rw [List.length_map]; exact h1) h2 h3
    rw [List.length_map, ← flt_ircI] at ho
    exact ⟨ho, (Below.refl B w).grown (grownBy_sortedI _) (by omega) (fun s e => by cases e; exact hbase)⟩

theorem Pl.chn_step {l : List Pl.Bt} {k : Nat} (G : Pl.Gd l k) {n j i : Nat} (hj : j ≤ n) (hi : i ∈ Pl.row l k j) :
    (Pl.br l k i = none ∧ Pl.chn (Pl.br l k) n i = [i]) ∨ ∃ p n' j', Pl.br l k i = some p ∧ Pl.chn (Pl.br l k) n i = i :: Pl.chn (Pl.br l k) n' p ∧ p ∈ Pl.row l k j' ∧ j' ≤ n' := by
  rcases Nat.eq_zero_or_pos j with rfl | h0
  · refine .inl ⟨G.b0 i hi, ?_⟩
    cases n with
    | zero => rfl
    | succ n => rw [Pl.chn, G.b0 i hi]
  · obtain ⟨p, hp, hpm, _, _⟩ := G.bs i j h0 hi
    obtain ⟨n', rfl⟩ : ∃ n', n = n' + 1 := ⟨n - 1, by omega⟩
    exact .inr ⟨p, n', j - 1, hp, by rw [Pl.chn, hp], hpm, by omega⟩
/-- how long a slice is -/
def slN : Value → Nat
  | .slice _ n _ => n
  | _ => 0
theorem own_slN {w : World} {B n : Nat} {v : Value} {xs : List Value} (h : w.ownsRow B 3 1 v n xs) : slN v = n := by
  rcases h.2 with ⟨rfl, h1⟩ | ⟨g, cap, cur, rfl, _⟩
  · exact h1.symm
  · rfl

set_option maxRecDepth 100000 in
set_option maxHeartbeats 4000000 in
theorem proof_b (l : List Pl.Bt) (n : Nat) (hn : l.length = n) (h : Pl.Ok l) (B b : Nat) (v : Value) (f : Nat → Value) (w : World) (hR : RwI w B v f (Pl.R l)) (hM : MapN w b n (Pl.br l n)) :
    Calls Tryz.prog 18 #[v, .map (some b)] w fun e w' => ∃ p, e = .returned p ∧ w'.ownsRow w.heap.size 3 1 p (Pl.pf l).length (flt irc (Pl.pf l)) ∧ Below w.heap.size w w' := by
  have hl : n ≤ 40 := hn ▸ h.len
  obtain ⟨A, c, rfl, hrr, hlc, hcm, _⟩ := hR.open encIr
  obtain ⟨r, hr⟩ : ∃ r, (Pl.R l).length = r := ⟨_, rfl⟩
  have hrn : Pl.nr l = r := hr
  rw [hr]
  have hr4 : r ≤ 40 := by have := Pl.nr_le h; omega
  by_cases h0 : r = 0
  · subst h0
    have HP : Hid (Pl.pf l = []) := Lib.hid (by unfold Pl.pf; rw [if_pos hrn])
    clear hR hM hrr hr hrn
    go_enter Tryz.func18, Tryz.ntmps18
    go_wp2
    go_ret
    exact ⟨_, rfl, by rw [HP.out]; exact World.ownsRow_nil _ _ _ _, Below.refl _ _⟩
  have G := Pl.gd h
  rw [hn] at G
  have HPL : Hid ((Pl.pf l).length = r) := Lib.hid ((Pl.pf_ok h).len.trans hrn)
  obtain ⟨q, rfl⟩ : ∃ q, r = q + 1 := ⟨r - 1, by omega⟩
  have HP0 : Hid (Pl.pf l = Pl.chn (Pl.br l n) 40 (Pl.lst ((Pl.R l).getD q []))) := Lib.hid (by unfold Pl.pf; rw [if_neg (by omega), hn, hrn]; rfl)
  have HI0 : Hid (Pl.lst ((Pl.R l).getD q []) ∈ Pl.row l n q) := Lib.hid (by rw [← hn]; exact Pl.lst_mem ((Pl.gd h).ne q (show q < (Pl.R l).length by omega)))
  have HST := Lib.hid (fun (m j i : Nat) hj hi => Pl.chn_step G (n := m) (j := j) (i := i) hj hi)
  have HIL : Hid (∀ i j, i ∈ Pl.row l n j → i < n) := Lib.hid (fun i j hi => by rw [← hn] at hi ⊢; exact Pl.row_idx h hi)
  obtain ⟨bz, oz, rfl, hbz, hcz⟩ := hrr.open (by omega)
  obtain ⟨A', c', z1, z2, z3, z4⟩ := hcz q (by omega)
  have hrf := Pl.row_facts h (Nat.le_refl _) (j := q) (show q < (Pl.gr l l.length).length from by show q < (Pl.R l).length; omega)
  have hrf' : 0 < ((Pl.R l).getD q []).length ∧ ((Pl.R l).getD q []).length ≤ 40 := ⟨hrf.1, hrf.2.1⟩
  have HLO := Lib.hid (lastOf_b A' ((Pl.R l).getD q []) c' _ rfl hrf'.1 hrf'.2 w z2)
  have k1 : IntKind.i64.wrap (((q + 1 : Nat) : Int) - 1) = (q : Int) := by rw [show ((q + 1 : Nat) : Int) - 1 = (q : Int) from by omega]; exact IntWalk.i64_in _ (by omega)
  have k2 : ((q + 1 : Nat) : Int) - 1 = (q : Int) := by omega
  have k3 : (q : Int) < ((q + 1 : Nat) : Int) := by omega
  have k4 : (((q + 1 : Nat) : Int) == 0) = false := by simp; omega
  have HM := Lib.hid hM
  clear hR hM hrr hcz z2 z3 z4 hrf hrf' G hrn hr hlc hcm h0
  generalize ((Pl.R l).getD q []).length = rl at *
  generalize Pl.lst ((Pl.R l).getD q []) = i0 at *
  obtain ⟨t0, hi, hz0, hz1, hz2⟩ := info_parts info3
  go_enter Tryz.func18, Tryz.ntmps18
  go_wp2_with fail
  refine HLO.out.mono ?_
  rintro e w1 ⟨rfl, hw1⟩
  obtain rfl : w = w1 := hw1.symm
  clear k1 k2 k3 k4 z1 HLO
  go_wp2
  go_loopw [5, 6, 7] (fun p i mo wr => ∃ d : List Nat, wr.ownsRow w.heap.size 3 1 p d.length (flt irc d) ∧ Below w.heap.size w wr ∧ ((∃ x m j : Nat, i = .int .i64 x ∧ mo = .bool true ∧ Hid (Pl.pf l = d ++ Pl.chn (Pl.br l n) m x ∧ j ≤ m ∧ x ∈ Pl.row l n j)) ∨ (mo = .bool false ∧ Hid (Pl.pf l = d)))) (fun p _ _ _ => 41 - slN p)
  case atStart => exact ⟨[], World.ownsRow_nil _ _ _ _, Below.refl _ _, .inl ⟨i0, 40, q, rfl, rfl, Lib.hid ⟨HP0.out, by omega, HI0.out⟩⟩⟩
  case round =>
    obtain ⟨d, hown, hW, hcase⟩ := hrel
    obtain ⟨wo, rfl⟩ : ∃ wo, wo = wr := ⟨_, rfl⟩
    rcases hcase with ⟨x, m, j, rfl, rfl, hH⟩ | ⟨rfl, hH⟩
    · have HXL := Lib.hid (HIL.out x j hH.out.2.2)
      have hdl : d.length ≤ 39 := by
        have h1 := HPL.out
        rw [hH.out.1, List.length_append] at h1
        have h2 : 0 < (Pl.chn (Pl.br l n) m x).length := by cases m <;> simp [Pl.chn]
        omega
      have HSL := Lib.hid (own_slN hown)
      obtain ⟨dl, hdn⟩ : ∃ dl, d.length = dl := ⟨_, rfl⟩
      rw [hdn] at hown hdl HSL
      have HDN := Lib.hid hdn
      clear hdn
      have HOW := Lib.hid (hown.alloc (.cells (irc x).toArray 3))
      have HFL : Hid (flt irc (d ++ [x]) = flt irc d ++ irc x) := Lib.hid (by rw [flt_append, flt_one])
      rcases HST.out m j x hH.out.2.1 hH.out.2.2 with ⟨hb0, hch⟩ | ⟨p, m', j', hb0, hch, hpm, hjm⟩
      · have HE : Hid (Pl.pf l = d ++ [x]) := Lib.hid (by rw [hH.out.1, hch])
        have HB0 := Lib.hid hb0
        clear hb0 hch
        go_wp2_with (at_builtin; refine wpList_append_own _ rfl _ _ 32 rfl w.heap.size 3 t0 _ 1 8 Tryz.underlying32 hi hz0 hz1 hz2 rfl (by decide) _ _ _ rfl HOW.out ⟨wo.heap.size, 0, none⟩ 1 1 (irc x) rfl rfl (new_cells' _ _ _ rfl) (encIr.one x) (by unfold maxLen; omega) (by omega) (by have := hW.size; simp; omega) ?_; intro v' w9 hown' hgrow _; have hW9 := (hW.alloc hW.size (.cells (irc x).toArray 3)).grown hgrow (hW.alloc hW.size _).size (fun s e => (hown.lt s e).1); have hlk := (HM.out.below hW9).look (i := x) (by have := HXL.out; omega); rw [HB0.out] at hlk)
        go_roundw
        case rel => exact ⟨d ++ [x], by rw [HFL.out, List.length_append, HDN.out]; exact hown', hW9, .inr ⟨rfl, HE⟩⟩
        case measure => have h1 := own_slN hown'; rw [h1]; have := HSL.out; omega
      · have HE : Hid (Pl.pf l = (d ++ [x]) ++ Pl.chn (Pl.br l n) m' p ∧ j' ≤ m' ∧ p ∈ Pl.row l n j') := Lib.hid ⟨by rw [hH.out.1, hch]; simp, hjm, hpm⟩
        have HB0 := Lib.hid hb0
        clear hb0 hch hpm hjm
        go_wp2_with (at_builtin; refine wpList_append_own _ rfl _ _ 32 rfl w.heap.size 3 t0 _ 1 8 Tryz.underlying32 hi hz0 hz1 hz2 rfl (by decide) _ _ _ rfl HOW.out ⟨wo.heap.size, 0, none⟩ 1 1 (irc x) rfl rfl (new_cells' _ _ _ rfl) (encIr.one x) (by unfold maxLen; omega) (by omega) (by have := hW.size; simp; omega) ?_; intro v' w9 hown' hgrow _; have hW9 := (hW.alloc hW.size (.cells (irc x).toArray 3)).grown hgrow (hW.alloc hW.size _).size (fun s e => (hown.lt s e).1); have hlk := (HM.out.below hW9).look (i := x) (by have := HXL.out; omega); rw [HB0.out] at hlk)
        go_roundw
        case rel => exact ⟨d ++ [x], by rw [HFL.out, List.length_append, HDN.out]; exact hown', hW9, .inl ⟨p, m', j', rfl, rfl, HE⟩⟩
        case measure => have h1 := own_slN hown'; rw [h1]; have := HSL.out; omega
    · have HO := Lib.hid hown
      have HWW := Lib.hid hW
      clear hown hW
      go_wp2
      go_ret
      exact ⟨_, rfl, by rw [hH.out]; exact HO.out, HWW.out⟩

set_option maxRecDepth 100000 in
set_option maxHeartbeats 2000000 in
theorem Proof_any (A : Option Addr) (l : List Pl.Bt) (c n : Nat) (hn : l.length = n) (h : Pl.vs l = true) (w : World) (hI : Bts w A l) :
    Calls Tryz.prog 8 #[.slice A n c] w fun e w' => ∃ p, e = .returned (.tuple #[p, .int .i64 0]) ∧ w'.ownsRow w.heap.size 3 1 p (Pl.nr l) (flt irc (Pl.srt l)) ∧ Below w.heap.size w w' := by
  have HC := Lib.hid (valid_any A l c w hI)
  rw [hn, h] at HC
  have HI := Lib.hid hI
  have ho := Pl.ok_of h
  have HA := Lib.hid (fun W (hI : Bts W A l) => arrange_any A l c n hn ho W hI)
  have HP := Lib.hid (fun B b v f W hR hM => proof_b l n hn ho B b v f W hR hM)
  have hln : (Pl.pf l).length = Pl.nr l := (Pl.pf_ok ho).len
  have hl4 : Pl.nr l ≤ 60 := by have h1 := Pl.nr_le ho; have h2 := ho.len; omega
  have HS := Lib.hid (fun B v W hown => sort_ints B v (Pl.pf l) (Pl.srt l) (Pl.nr l) hln hl4 (Pl.srt_int l) W hown)
  rw [hln] at HP
  generalize Pl.nr l = r at *
  clear hI h ho hn hln
  go_enter Tryz.func8, Tryz.ntmps8
  go_wp2_with fail
  refine HC.out.mono ?_
  rintro e w1 ⟨rfl, hb1⟩
  go_wp2_with fail
  refine (HA.out w1 (HI.out.below hb1)).mono ?_
  rintro e w2 ⟨v, b, f, rfl, hR, hM, hb2⟩
  have hB2 := hb1.trans (hb2.mono hb1.size)
  have HPP := Lib.hid (HP.out _ _ _ _ _ hR hM)
  clear hR hM hb2
  go_wp2_with fail
  refine HPP.out.mono ?_
  rintro e w3 ⟨p, rfl, hown, hb3⟩
  have hB3 := hB2.trans (hb3.mono hB2.size)
  have hown2 := own_mono hown (show w.heap.size ≤ w2.heap.size from hB2.size)
  have HSS := Lib.hid (HS.out _ _ _ hown2)
  clear hown hown2 hb3 hB2 hb1
  go_wp2_with fail
  refine HSS.out.mono ?_
  rintro e w4 ⟨rfl, hown, hb4⟩
  have hB4 := hB3.trans hb4
  have HO := Lib.hid hown
  clear hown
  go_wp2
  go_ret2
  exact ⟨_, rfl, HO.out, hB4⟩
end Go.Proofs.YtlfbfdhdkccaeaaGreat

