/- slices.Grow and slices.Concat of runs. -/
import Derived.Test.YtlfbfdhdkccaeaaGreatJ1
import Derived.Test.YtlfbfdhdkccaeaaGreatOpenZ
import Derived.Lib.AppendZeros
namespace Go.Proofs.YtlfbfdhdkccaeaaGreat
open Go.RowKit Go.Shelf

theorem infoRn' : (Tryz.prog.info? 60).map (fun i => (i.zero, i.size, i.bytes)) = some (some (.agg #[.int .i64 0, .int .i64 0, .int .i64 0, .bool false]), 4, 32) := by kernel_rfl

set_option maxRecDepth 100000 in
set_option maxHeartbeats 2000000 in
theorem grow0_any (w : World) :
    Calls Tryz.prog 62 #[.slice none 0 0, .int .i64 0] w fun e w' => e = .returned (.slice none 0 0) ∧ w' = w := by
  go_enter Tryz.func62, Tryz.ntmps62
  go_wp2
  go_ret
  exact ⟨rfl, rfl⟩

set_option maxRecDepth 100000 in
set_option maxHeartbeats 2000000 in
theorem grow_any (n : Nat) (h0 : 0 < n) (h64 : n ≤ 2000) (w : World) :
    Calls Tryz.prog 62 #[.slice none 0 0, .int .i64 n] w fun e w' => ∃ v, e = .returned v ∧ w'.ownsRow w.heap.size 60 4 v 0 (flt rnL []) ∧ Below w.heap.size w w' := by
  obtain ⟨i0, hi, hz0, hz1, hz2⟩ := info_parts infoRn'
  have hrz := fun ty => Lib.run_append_nil_zeros w 63 3 ty 60 i0 _ .i64 .i64 Tryz.underlying63 Tryz.underlying3 hi hz0 n h0 (by rw [hz1]; omega) (by omega) (by rw [hz2]; omega)
  have hGm := grownCap_le_maxLen w n 0 60 (by unfold maxLen; omega)
  have hGn := grownCap_ge w n 0 60
  generalize grownCap w n 0 60 = G at *
  have hOwn : ∀ cur : Array Value, cur.size = G * 4 → ((w.drew).alloc (.cells cur 60)).ownsRow w.heap.size 60 4 (.slice (some ⟨w.drew.heap.size, 0, none⟩) 0 G) 0 (flt rnL []) := fun cur hcur => World.ownsRow_made w.drew cur G (Nat.le_refl _) hGm hcur
  have HOwn := Lib.hid hOwn
  have hG63 : G ≤ 9223372036854775807 := by unfold maxLen at hGm; omega
  clear hOwn hGm
  go_enter Tryz.func62, Tryz.ntmps62
  go_wp2_with (at_builtin; refine Lib.wpList_append_run _ rfl _ _ _ _ rfl _ _ rfl rfl _ _ (hrz _) ?_)
  go_ret
  refine ⟨_, rfl, HOwn.out _ ?_, ((Below.refl _ w).drew).alloc (Nat.le_refl _) _⟩
  simp [Builtin.zeroCells]
  omega

/-- so many are in the first k lists -/
def Pl.tl (runs : List (List Pl.Rn)) (k : Nat) : Nat := (runs.take k).flatten.length
theorem Pl.tl_zero (runs : List (List Pl.Rn)) : Pl.tl runs 0 = 0 := by simp [Pl.tl]
theorem Pl.tk_succ {runs : List (List Pl.Rn)} {k : Nat} (hk : k < runs.length) : (runs.take (k + 1)).flatten = (runs.take k).flatten ++ runs.getD k [] := by
  rw [List.take_succ_eq_append_getElem hk, List.flatten_append, List.getD_eq_getElem?_getD, List.getElem?_eq_getElem hk]; simp
theorem Pl.tl_succ {runs : List (List Pl.Rn)} {k : Nat} (hk : k < runs.length) : Pl.tl runs (k + 1) = Pl.tl runs k + (runs.getD k []).length := by
  unfold Pl.tl; rw [Pl.tk_succ hk, List.length_append]
theorem Pl.tl_all (runs : List (List Pl.Rn)) : Pl.tl runs runs.length = runs.flatten.length := by unfold Pl.tl; rw [List.take_length]
theorem Pl.tl_bd {runs : List (List Pl.Rn)} {B : Nat} (h : ∀ k, k < runs.length → (runs.getD k []).length ≤ B) : ∀ k, k ≤ runs.length → Pl.tl runs k ≤ B * k
  | 0, _ => by rw [Pl.tl_zero]; omega
  | k + 1, hk => by
    have h1 := Pl.tl_bd h k (by omega)
    have h2 := h k (by omega)
    rw [Pl.tl_succ (by omega), Nat.mul_add]; omega
theorem oneCell_rn (xs : List Pl.Rn) : ∀ u ∈ flt rnL xs, u.oneCell' = true := flt_one' encRn xs

set_option maxRecDepth 100000 in
set_option maxHeartbeats 8000000 in
theorem concat_any (A : Option Addr) (runs : List (List Pl.Rn)) (c m : Nat) (hm : runs.length = m) (hm8 : m ≤ 8) (hlen : ∀ k, k < m → (runs.getD k []).length ≤ 100) (w : World) (hR : RR rnL 4 w A runs) (hNz : Nz w A m) :
    Calls Tryz.prog 30 #[.slice A m c] w fun e w' => ∃ v, e = .returned v ∧ w'.ownsRow w.heap.size 60 4 v runs.flatten.length (flt rnL runs.flatten) ∧ Below w.heap.size w w' := by
  have HGR : Hid (∀ k, k < m → ∃ b off, A = some ⟨b, off, none⟩ ∧ b < w.heap.size ∧ ∃ A' c', w.cell? ⟨b, off + k, none⟩ = some (.slice A' (runs.getD k []).length c') ∧ Rows rnL 4 w A' (runs.getD k []) ∧ (runs.getD k []).length ≤ c' ∧ c' ≤ maxLen) := Lib.hid (fun k hk => rr_rowR hR (by rw [hm]; exact hk))
  have HNZ := Lib.hid hNz
  have HTS : Hid (∀ k, k < m → Pl.tl runs (k + 1) = Pl.tl runs k + (runs.getD k []).length) := Lib.hid (fun k hk => Pl.tl_succ (by rw [hm]; exact hk))
  have HKS : Hid (∀ k, k < m → flt rnL (runs.take (k + 1)).flatten = flt rnL (runs.take k).flatten ++ flt rnL (runs.getD k [])) := Lib.hid (fun k hk => by rw [Pl.tk_succ (by rw [hm]; exact hk), flt_append])
  have HTA : Hid (Pl.tl runs m = runs.flatten.length ∧ flt rnL (runs.take m).flatten = flt rnL runs.flatten) := Lib.hid (by rw [← hm]; exact ⟨Pl.tl_all runs, by rw [List.take_length]⟩)
  have HTB : Hid (∀ k, k ≤ m → Pl.tl runs k ≤ 800) := Lib.hid (fun k hk => by
    have := Pl.tl_bd (runs := runs) (B := 100) (by rw [hm]; exact hlen) k (by rw [hm]; exact hk)
    omega)
  have HT0 : Hid (Pl.tl runs 0 = 0 ∧ flt rnL (runs.take 0).flatten = flt rnL []) := Lib.hid ⟨Pl.tl_zero runs, rfl⟩
  have HLE := Lib.hid hlen
  clear hR hNz hm hlen
  obtain ⟨i0, hi, hz0, hz1, hz2⟩ := info_parts infoRn'
  have HG : Hid (∀ n : Nat, n ≤ 2000 → Calls Tryz.prog 62 #[.slice none 0 0, .int .i64 n] w fun e w' => ∃ v, e = .returned v ∧ w'.ownsRow w.heap.size 60 4 v 0 (flt rnL []) ∧ Below w.heap.size w w') := Lib.hid (fun n hn => by
    rcases Nat.eq_zero_or_pos n with rfl | h
    · exact (grow0_any w).mono fun e w' ⟨he, hw⟩ => by subst hw; exact ⟨_, he, World.ownsRow_nil _ _ _ _, Below.refl _ _⟩
    · exact grow_any n h hn w)
  go_enter Tryz.func30, Tryz.ntmps30
  go_wp2
  go_loop [3, 11] (fun s i => ∃ k : Nat, k ≤ m ∧ i = .int .i64 k ∧ s = .int .i64 (Pl.tl runs k : Nat)) (fun _ i => m - (intOf i).toNat)
  case atStart => exact ⟨0, Nat.zero_le _, rfl, by rw [HT0.out.1]; rfl⟩
  case round =>
    obtain ⟨k, hk, rfl, rfl⟩ := hrel
    by_cases hlt : k < m
    · have hltI : (k : Int) < (m : Int) := by omega
      obtain ⟨b, off, rfl, hb, A', c', h1, h2, h3, h4⟩ := HGR.out k hlt
      have HTk := Lib.hid (HTS.out k hlt)
      have hb1 := HTB.out k hk
      have hb2 := HLE.out k hlt
      generalize (runs.getD k []).length = u at *
      obtain ⟨L, hL⟩ : ∃ L, Pl.tl runs k = L := ⟨_, rfl⟩
      rw [hL] at HTk hb1 ⊢
      clear h2 h3 h4 hL
      go_wp2
      go_round
      case rel => exact ⟨k + 1, by omega, by go_num, by rw [HTk.out]; go_num⟩
      case measure => simp [intOf]; omega
    · obtain rfl : m = k := by omega
      have hb1 := HTB.out m (Nat.le_refl _)
      have HGm := Lib.hid (HG.out (Pl.tl runs m) (by omega))
      generalize Pl.tl runs m = L at HGm hb1 ⊢
      go_wp2_with fail
      refine HGm.out.mono ?_
      rintro e w1 ⟨v, rfl, hown, hb⟩
      have hown0 : w1.ownsRow w.heap.size 60 4 v (Pl.tl runs 0) (flt rnL (runs.take 0).flatten) := by rw [HT0.out.1, HT0.out.2]; exact hown
      have HO := Lib.hid hown0
      clear hown hown0
      go_wp2
      go_loopw [6, 27] (fun v i wr => ∃ k : Nat, k ≤ m ∧ i = .int .i64 k ∧ Hid (wr.ownsRow w.heap.size 60 4 v (Pl.tl runs k) (flt rnL (runs.take k).flatten)) ∧ Below w.heap.size w wr) (fun _ i _ => m - (intOf i).toNat)
      case atStart => exact ⟨0, Nat.zero_le _, rfl, HO, hb⟩
      case round =>
        clear hb HO
        obtain ⟨k, hk, rfl, hown', hB⟩ := hrel
        obtain ⟨w2, rfl⟩ : ∃ w2, w2 = wr := ⟨_, rfl⟩
        by_cases hlt : k < m
        · have hltI : (k : Int) < (m : Int) := by omega
          obtain ⟨b, off, rfl, hb, A', c', h1, h2, h3, h4⟩ := HGR.out k hlt
          have hown := hown'.out
          have HTk := Lib.hid (HTS.out k hlt)
          have HKk := Lib.hid (HKS.out k hlt)
          have hb1 := HTB.out k hk
          have hb2 := HLE.out k hlt
          have q0 := (hB.cell (p := ⟨b, off + k, none⟩) hb).trans h1
          have hu := rfl (a := (runs.getD k []).length)
          rcases h2 with he | ⟨b', off', rfl, hb', hc'⟩
          · have h0 : (runs.getD k []).length = 0 := by rw [he]; rfl
            rw [h0] at q0 HTk h1
            have HF : Hid (flt rnL (runs.take (k + 1)).flatten = flt rnL (runs.take k).flatten) := Lib.hid (by rw [HKk.out, he]; simp [flt])
            cases A' with
            | none =>
              have hc0 := HNZ.out b off k rfl hlt hb c' h1
              subst hc0
              clear h1 h3 h4 hu he HKk
              generalize Pl.tl runs k = L1 at HTk hown hb1
              generalize flt rnL (runs.take k).flatten = X at HF hown
              go_wp2_with (at_builtin; refine wpList_append_own_none rfl _ _ 63 rfl w.heap.size 60 i0 4 Tryz.underlying63 hi _ _ _ rfl hown rfl ?_)
              go_roundw
              case rel => exact ⟨k + 1, by omega, by go_num, Lib.hid (by rw [HTk.out, HF.out]; exact hown), hB⟩
              case measure => simp [intOf]; omega
            | some ad =>
              clear h1 h3 h4 hu he HKk
              generalize Pl.tl runs k = L1 at HTk hown hb1
              generalize flt rnL (runs.take k).flatten = X at HF hown
              go_wp2_with (at_builtin; refine wpList_append_own _ rfl _ _ 63 rfl w.heap.size 60 i0 _ 4 32 Tryz.underlying63 hi hz0 hz1 hz2 rfl (by decide) _ _ _ rfl hown ad 0 c' [] rfl rfl (by simp) (by simp) ?c3 ?c4 hB.size ?_)
              case c3 => unfold maxLen; omega
              case c4 => omega
              intro v' w3 hown' hgrow _
              have hB' : Below w.heap.size w w3 := hB.grown hgrow hB.size (fun k e => (hown.lt k e).1)
              have HOW := Lib.hid hown'
              clear hown hown' hgrow
              go_wp2
              go_roundw
              case rel => exact ⟨k + 1, by omega, by go_num, Lib.hid (by rw [HTk.out, HF.out]; simpa using HOW.out), hB'⟩
              case measure => simp [intOf]; omega
          · have HPC := Lib.hid (rows_cells encRn (W := w2) (b := b') (off := off') (xs := runs.getD k []) (fun i hi => rangeAt_below (hc' i hi) hb' hB))
            obtain ⟨row, hrow⟩ : ∃ r, runs.getD k [] = r := ⟨_, rfl⟩
            rw [hrow] at HPC HKk q0 HTk hb2
            have hfl : (flt rnL row).length = row.length * 4 := flt_len encRn row
            have h1c := oneCell_rn row
            have HFL := Lib.hid hfl
            have H1C := Lib.hid h1c
            obtain ⟨u, hu2⟩ : ∃ u, row.length = u := ⟨_, rfl⟩
            rw [hu2] at q0 HTk hb2 HFL
            clear h1 h3 h4 hu hrow hc' hfl h1c hu2
            generalize Pl.tl runs k = L1 at HTk hown hb1
            generalize flt rnL (runs.take k).flatten = X at HKk hown
            go_wp2_with (at_builtin; refine wpList_append_own _ rfl _ _ 63 rfl w.heap.size 60 i0 _ 4 32 Tryz.underlying63 hi hz0 hz1 hz2 rfl (by decide) _ _ _ rfl hown ⟨b', off', none⟩ u c' (flt rnL row) rfl HFL.out HPC.out H1C.out ?c3 ?c4 hB.size ?_)
            case c3 => unfold maxLen; omega
            case c4 => omega
            intro v' w3 hown' hgrow _
            have hB' : Below w.heap.size w w3 := hB.grown hgrow hB.size (fun k e => (hown.lt k e).1)
            have HOW := Lib.hid hown'
            clear hown hown' hgrow
            go_wp2
            go_roundw
            case rel => exact ⟨k + 1, by omega, by go_num, Lib.hid (by rw [HTk.out, HKk.out]; exact HOW.out), hB'⟩
            case measure => simp [intOf]; omega
        · obtain rfl : m = k := by omega
          have HE : Hid (w2.ownsRow w.heap.size 60 4 _ runs.flatten.length (flt rnL runs.flatten)) := Lib.hid (by have := hown'.out; rw [HTA.out.1, HTA.out.2] at this; exact this)
          clear hown'
          go_wp2
          go_ret
          exact ⟨_, rfl, HE.out, hB⟩
end Go.Proofs.YtlfbfdhdkccaeaaGreat

