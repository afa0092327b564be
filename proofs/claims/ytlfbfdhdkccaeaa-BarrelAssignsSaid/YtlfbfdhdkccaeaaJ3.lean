/- The end of runs, of the program (slices.MaxFunc) and of the document. -/
import Derived.Test.YtlfbfdhdkccaeaaJ2
import Derived.Test.YtlfbfdhdkccaeaaS1
import Derived.Test.YtlfbfdhdkccaeaaP18
import Derived.Laws.Tables
namespace Go.Proofs.Ytlfbfdhdkccaeaa
open Go.RowKit Go.Shelf Go.Sort

/-- the greatest end of some runs -/
def Pl.Mx (D : List Pl.Rn) (e : Int) : Prop := (D = [] ∧ e = 0) ∨ ((∃ r, r ∈ D ∧ r.t = e) ∧ ∀ r, r ∈ D → r.t ≤ e)
theorem Pl.Mx.snoc {D : List Pl.Rn} {e : Int} (h : Pl.Mx D e) (r : Pl.Rn) : Pl.Mx (D ++ [r]) (if D = [] ∨ e < r.t then r.t else e) := by
  rcases h with ⟨rfl, rfl⟩ | ⟨⟨q, h1, h2⟩, h3⟩
  · rw [if_pos (.inl rfl)]
    exact .inr ⟨⟨r, by simp, rfl⟩, fun y hy => by simp at hy; rw [hy]; exact Int.le_refl _⟩
  · have hne : ¬ D = [] := fun h => by rw [h] at h1; exact absurd h1 List.not_mem_nil
    refine .inr ?_
    by_cases c : e < r.t
    · rw [if_pos (.inr c)]
      refine ⟨⟨r, by simp, rfl⟩, fun y hy => ?_⟩
      rcases List.mem_append.1 hy with h | h
      · have := h3 y h; omega
      · rw [List.mem_singleton.1 h]; exact Int.le_refl _
    · rw [if_neg (by rintro (h | h); exact hne h; exact c h)]
      refine ⟨⟨q, List.mem_append_left _ h1, h2⟩, fun y hy => ?_⟩
      rcases List.mem_append.1 hy with h | h
      · exact h3 y h
      · rw [List.mem_singleton.1 h]; omega
/-- what End answers -/
def Pl.EndR (runs : List (List Pl.Rn)) (v e : Int) : Prop := if Pl.cwd runs = true then v = 0 ∧ e = 2 else e = 0 ∧ Pl.IsEnd runs v
theorem Pl.EndR.uniq {runs : List (List Pl.Rn)} {v e v' e' : Int} (h : Pl.EndR runs v e) (h' : Pl.EndR runs v' e') : v = v' ∧ e = e' := by
  unfold Pl.EndR at h h'
  split at h
  · rename_i c
    rw [if_pos c] at h'
    omega
  · rename_i c
    rw [if_neg c] at h'
    exact ⟨h.2.uniq h'.2, by omega⟩
/-- the first k barrels, and j runs of the next -/
def Pl.fr (runs : List (List Pl.Rn)) (k j : Nat) : List Pl.Rn := (runs.take k).flatten ++ (runs.getD k []).take j
theorem Pl.fr_zero (runs : List (List Pl.Rn)) : Pl.fr runs 0 0 = [] := by simp [Pl.fr]
theorem Pl.fr_succ {runs : List (List Pl.Rn)} {k j : Nat} (hj : j < (runs.getD k []).length) : Pl.fr runs k (j + 1) = Pl.fr runs k j ++ [(runs.getD k []).getD j Pl.zr] := by
  unfold Pl.fr
  rw [List.take_succ_eq_append_getElem hj, ← List.append_assoc, List.getD_eq_getElem?_getD (l := runs.getD k []), List.getElem?_eq_getElem hj]; rfl
theorem Pl.fr_next {runs : List (List Pl.Rn)} {k : Nat} (hk : k < runs.length) : Pl.fr runs k (runs.getD k []).length = Pl.fr runs (k + 1) 0 := by
  unfold Pl.fr
  rw [List.take_length, Pl.tk_succ hk, List.take_zero, List.append_nil]
theorem Pl.fr_end (runs : List (List Pl.Rn)) : Pl.fr runs runs.length 0 = runs.flatten := by simp [Pl.fr]

set_option maxRecDepth 100000 in
set_option maxHeartbeats 8000000 in
theorem rEnd_any (A : Option Addr) (runs : List (List Pl.Rn)) (c m : Nat) (hm : runs.length = m) (w : World) (hR : RR rnL 4 w A runs) :
    Calls Try.prog 43 #[.slice A m c] w fun e w' => ∃ v r : Int, e = .returned (.tuple #[.int .i64 v, .int .i64 r]) ∧ Pl.EndR runs v r ∧ w' = w := by
  obtain ⟨x, hx⟩ : ∃ x, Pl.cwd runs = x := ⟨_, rfl⟩
  have HC := Lib.hid (rcrowd_b A runs c m hm x hx w hR)
  cases x
  rotate_left
  · have HF : Hid (Pl.EndR runs 0 2) := Lib.hid (by unfold Pl.EndR; rw [if_pos hx]; exact ⟨rfl, rfl⟩)
    clear hm hx hR
    go_enter Try.func43, Try.ntmps43
    go_wp2_with fail
    refine HC.out.mono ?_
    rintro e w1 ⟨rfl, hw1⟩
    obtain rfl : w = w1 := hw1.symm
    go_wp2
    go_ret2
    exact ⟨_, _, rfl, HF.out, rfl⟩
  have HF : Hid (∀ v, Pl.Mx runs.flatten v → Pl.EndR runs v 0) := Lib.hid (fun v h => by unfold Pl.EndR; rw [if_neg (by rw [hx]; simp)]; exact ⟨rfl, h⟩)
  obtain ⟨hm8, hlen⟩ := Pl.cwd_no hx
  rw [hm] at hm8 hlen
  have HLE := Lib.hid hlen
  have HGR : Hid (∀ k, k < m → ∃ b off, A = some ⟨b, off, none⟩ ∧ b < w.heap.size ∧ ∃ A' c', w.cell? ⟨b, off + k, none⟩ = some (.slice A' (runs.getD k []).length c') ∧ Rows rnL 4 w A' (runs.getD k []) ∧ (runs.getD k []).length ≤ c' ∧ c' ≤ maxLen) := Lib.hid (fun k hk => rr_rowR hR (by rw [hm]; exact hk))
  have HFS : Hid (∀ k j, j < (runs.getD k []).length → Pl.fr runs k (j + 1) = Pl.fr runs k j ++ [(runs.getD k []).getD j Pl.zr]) := Lib.hid (fun k j hj => Pl.fr_succ hj)
  have HFN : Hid (∀ k, k < m → Pl.fr runs k (runs.getD k []).length = Pl.fr runs (k + 1) 0) := Lib.hid (fun k hk => Pl.fr_next (by rw [hm]; exact hk))
  have HFE : Hid (Pl.fr runs m 0 = runs.flatten) := Lib.hid (by rw [← hm]; exact Pl.fr_end runs)
  have HF0 : Hid (Pl.fr runs 0 0 = []) := Lib.hid (Pl.fr_zero runs)
  clear hm hx hR hlen
  go_enter Try.func43, Try.ntmps43
  go_wp2_with fail
  refine HC.out.mono ?_
  rintro e w1 ⟨rfl, hw1⟩
  obtain rfl : w = w1 := hw1.symm
  go_wp2
  go_loop [4, 5, 6, 7] (fun en so i _ => ∃ k : Nat, ∃ (v : Int) (s : Bool), k ≤ m ∧ i = .int .i64 k ∧ en = .int .i64 v ∧ so = .bool s ∧ Hid (s = true ↔ ¬ Pl.fr runs k 0 = []) ∧ Hid (Pl.Mx (Pl.fr runs k 0) v)) (fun _ _ i _ => m - (intOf i).toNat)
  case atStart => exact ⟨0, 0, false, Nat.zero_le _, rfl, rfl, rfl, Lib.hid (by rw [HF0.out]; simp), Lib.hid (by rw [HF0.out]; exact .inl ⟨rfl, rfl⟩)⟩
  case round =>
    obtain ⟨k, v0, s0, hk, rfl, rfl, rfl, hs0, hv0⟩ := hrel
    by_cases hlt : k < m
    · have hltI : (k : Int) < (m : Int) := by omega
      obtain ⟨b, off, rfl, hb, A', c', h1, h2, h3, h4⟩ := HGR.out k hlt
      have HLk := HLE.out k hlt
      have HFSk := Lib.hid (HFS.out k)
      have HFNk := Lib.hid (HFN.out k hlt)
      obtain ⟨row, hrow⟩ : ∃ r, runs.getD k [] = r := ⟨_, rfl⟩
      rw [hrow] at h1 h2 HLk HFSk HFNk
      have HROW := Lib.hid h2
      obtain ⟨u, hu⟩ : ∃ u, row.length = u := ⟨_, rfl⟩
      rw [hu] at h1 HLk HFSk HFNk
      have HU := Lib.hid hu
      clear h2 h3 h4 hrow hu
      go_wp2
      go_loop [4, 5, 7] (fun en so i => ∃ j : Nat, ∃ (v : Int) (s : Bool), j ≤ u ∧ i = .int .i64 j ∧ en = .int .i64 v ∧ so = .bool s ∧ Hid (s = true ↔ ¬ Pl.fr runs k j = []) ∧ Hid (Pl.Mx (Pl.fr runs k j) v)) (fun _ _ i => u - (intOf i).toNat)
      case atStart => exact ⟨0, v0, s0, Nat.zero_le _, rfl, rfl, rfl, hs0, hv0⟩
      case round =>
        clear hs0 hv0
        obtain ⟨j, v1, s1, hj, rfl, rfl, rfl, hs1, hv1⟩ := hrel
        by_cases hltj : j < u
        · have hltjI : (j : Int) < (u : Int) := by omega
          have hjx : j < row.length := by rw [HU.out]; exact hltj
          obtain ⟨b', off', rfl, hb', hc'⟩ := HROW.out.open (by omega)
          have q := (rn_cells (hc' j hjx)).2.2.1
          have HS := Lib.hid (HFSk.out j hltj)
          rw [List.getD_eq_getElem?_getD, List.getElem?_eq_getElem hjx] at HS
          change Hid (Pl.fr runs k (j + 1) = Pl.fr runs k j ++ [row[j]]) at HS
          generalize row[j] = r at *
          have HM := Lib.hid (hv1.out.snoc r)
          have HN : Hid (true = true ↔ ¬ Pl.fr runs k (j + 1) = []) := Lib.hid (by rw [HS.out]; simp)
          clear hc'
          obtain ⟨T, hT⟩ : ∃ T, r.t = T := ⟨_, rfl⟩
          rw [hT] at HM q
          clear hT
          cases s1
          · have HM2 : Hid (Pl.Mx (Pl.fr runs k (j + 1)) T) := Lib.hid (by
              have := HM.out
              rw [if_pos (.inl (by have := hs1.out; simpa using this))] at this
              rw [HS.out]; exact this)
            clear HM hs1 hv1
            go_wp2
            go_round
            case rel => exact ⟨j + 1, T, true, by omega, by go_num, rfl, rfl, HN, HM2⟩
            case measure => simp [intOf]; omega
          · have hne : ¬ Pl.fr runs k j = [] := hs1.out.1 rfl
            by_cases hgt : v1 < T
            · have HM2 : Hid (Pl.Mx (Pl.fr runs k (j + 1)) T) := Lib.hid (by
                have := HM.out
                rw [if_pos (.inr hgt)] at this
                rw [HS.out]; exact this)
              clear HM hs1 hv1 hne
              go_wp2
              go_round
              case rel => exact ⟨j + 1, T, true, by omega, by go_num, rfl, rfl, HN, HM2⟩
              case measure => simp [intOf]; omega
            · have HM2 : Hid (Pl.Mx (Pl.fr runs k (j + 1)) v1) := Lib.hid (by
                have := HM.out
                rw [if_neg (by rintro (h | h); exact hne h; exact hgt h)] at this
                rw [HS.out]; exact this)
              have hd : decide (v1 < T) = false := decide_eq_false hgt
              clear HM hs1 hv1 hne
              go_wp2
              go_round
              case rel => exact ⟨j + 1, v1, true, by omega, by go_num, rfl, rfl, HN, HM2⟩
              case measure => simp [intOf]; omega
        · obtain rfl : j = u := by omega
          have HN : Hid (s1 = true ↔ ¬ Pl.fr runs (k + 1) 0 = []) := Lib.hid (by rw [← HFNk.out]; exact hs1.out)
          have HM : Hid (Pl.Mx (Pl.fr runs (k + 1) 0) v1) := Lib.hid (by rw [← HFNk.out]; exact hv1.out)
          clear hs1 hv1
          go_wp2
          go_round
          case rel => exact ⟨k + 1, v1, s1, by omega, by go_num, rfl, rfl, HN, HM⟩
          case measure => simp [intOf]; omega
    · obtain rfl : m = k := by omega
      have HE := Lib.hid (HF.out v0 (by rw [← HFE.out]; exact hv0.out))
      clear hs0 hv0
      go_wp2
      go_ret2
      exact ⟨_, _, rfl, HE.out, rfl⟩

set_option maxRecDepth 100000 in
theorem endc_b (r s : Pl.Rn) (w : World) :
    Calls Try.prog 79 #[.agg (rnA r), .agg (rnA s)] w fun e w' => e = .returned (.int .i64 (Pl.cmpI r.t s.t)) ∧ Below w.heap.size w w' := by
  have hB := ((Below.refl w.heap.size w).alloc (Nat.le_refl _) (.cells (rnA r) 66)).alloc (by simp) (.cells (rnA s) 66)
  have bA := (Blk.new w 66 (rnA r)).alloc (.cells (rnA s) 66)
  have bB := Blk.new (w.alloc (.cells (rnA r) 66)) 66 (rnA s)
  simp only [World.size_alloc] at bB
  have q0 := bA.cell 2
  have q1 := bB.cell 2
  clear bA bB
  go_enter Try.func79, Try.ntmps79
  go_wp2_with fail
  refine (cmp_any r.t s.t _).mono ?_
  rintro e w2 ⟨rfl, rfl⟩
  go_wp2
  go_ret
  exact ⟨rfl, hB⟩
end Go.Proofs.Ytlfbfdhdkccaeaa
