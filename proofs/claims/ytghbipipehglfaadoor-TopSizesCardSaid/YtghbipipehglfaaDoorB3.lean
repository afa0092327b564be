/- The document's test of lists of sizes and heads. -/
import Derived.Test.YtghbipipehglfaaDoorB2
namespace Go.Proofs.YtghbipipehglfaaDoor
open Go.RowKit Go.Shelf
/-- the numbers of the first k -/
def seenL {α : Type} (num : α → Int) (l : List α) (k : Nat) : List Int := ((l.take k).map num).reverse
theorem seenL_succ {α : Type} {num : α → Int} {l : List α} {k : Nat} {z : α} (hk : k < l.length) : seenL num l (k + 1) = num (l.getD k z) :: seenL num l k := by
  unfold seenL
  rw [List.take_add_one, List.getElem?_eq_getElem hk, List.getD_eq_getElem?_getD, List.getElem?_eq_getElem hk, List.map_append, List.reverse_append]
  rfl
theorem mem_seenL {α : Type} {num : α → Int} {l : List α} {k : Nat} {z : α} {x : Int} (hk : k ≤ l.length) : x ∈ seenL num l k ↔ ∃ j, j < k ∧ num (l.getD j z) = x := by
  induction k with
  | zero => simp [seenL]
  | succ k ih =>
    rw [seenL_succ (z := z) (by omega), List.mem_cons, ih (by omega)]
    constructor
    · rintro (rfl | ⟨j, h1, h2⟩)
      · exact ⟨k, by omega, rfl⟩
      · exact ⟨j, by omega, h2⟩
    · rintro ⟨j, h1, h2⟩
      rcases Nat.lt_succ_iff_lt_or_eq.1 h1 with h | rfl
      · exact .inr ⟨j, h, h2⟩
      · exact .inl h2.symm

set_option maxRecDepth 100000 in
set_option maxHeartbeats 8000000 in
theorem rvalid_sizes (A : Option Addr) (l : List Pl.Sz) (c : Nat) (w : World) (hcap : l.length ≤ c) (hmax : l.length ≤ 9223372036854775807) (hI : Szs w A l) :
    Calls Tryd.prog 10 #[.slice A l.length c] w fun e w' => e = .returned (.bool (Pl.vszs l)) ∧ Below w.heap.size w w' := by
  have HV : Hid (Pl.vszs l = (decide (l.length ≤ 20) && Pl.vl Pl.vsz Pl.Sz.code (l.drop 0) [])) := Lib.hid (by rw [List.drop_zero]; rfl)
  obtain ⟨U, hU⟩ : ∃ U, Pl.vl Pl.vsz Pl.Sz.code (l.drop 0) [] = U := ⟨_, rfl⟩
  rw [hU] at HV
  have HL : Hid (Pl.vl Pl.vsz Pl.Sz.code (l.drop 0) (seenL Pl.Sz.code l 0) = U) := Lib.hid hU
  generalize Pl.vszs l = V at *
  clear hU
  have HI := Lib.hid hI
  clear hI
  go_enter Tryd.func10, Tryd.ntmps10
  go_wp2
  go_loopw [3, 4, 6, 9] (fun _ _ _ i wr => ∃ k : Nat, k ≤ l.length ∧ i = .int .i64 k ∧ Hid (Pl.vl Pl.vsz Pl.Sz.code (l.drop k) (seenL Pl.Sz.code l k) = U) ∧ Below w.heap.size w wr) (fun _ _ _ i _ => l.length - (intOf i).toNat)
  case atStart => exact ⟨0, Nat.zero_le _, rfl, HL, Below.refl _ _⟩
  case round =>
    clear HL
    obtain ⟨k, hk, rfl, hvl, hB⟩ := hrel
    obtain ⟨wo, rfl⟩ : ∃ wo, wo = wr := ⟨_, rfl⟩
    by_cases hlt : k < l.length
    · obtain ⟨bz, oz, rfl, hbz, hcz⟩ : ∃ bb off, A = some ⟨bb, off, none⟩ ∧ bb < w.heap.size ∧ ∀ j, j < l.length → w.rangeAt bb (off + j * 17) (szA (l.getD j Pl.zsz)).toList := by
        rcases HI.out with h | ⟨bb, off, he, hb, hc⟩
        · rw [h] at hlt; simp at hlt
        · exact ⟨bb, off, he, hb, hc⟩
      have hck := rangeAt_below (hcz k hlt) hbz hB
      have hvl2 := Lib.hid (hvl.out.symm.trans (Pl.vl_step (z := Pl.zsz) hlt))
      have HCZ := Lib.hid hcz
      have HMEM := Lib.hid (fun x => mem_seenL (num := Pl.Sz.code) (z := Pl.zsz) (l := l) (k := k) (x := x) hk)
      have HNX : Hid (seenL Pl.Sz.code l (k + 1) = Pl.Sz.code (l.getD k Pl.zsz) :: seenL Pl.Sz.code l k) := Lib.hid (seenL_succ hlt)
      clear hcz hvl
      have HLV := Lib.hid (fun j : Nat => (rfl : l.getD j Pl.zsz = l.getD j Pl.zsz))
      clear HLV
      generalize hE : l.getD k Pl.zsz = E at hck hvl2 HNX
      clear hE
      have bE : Blk (wo.alloc (.cells (szA E) 46)) wo.heap.size 46 (szA E) := Blk.new wo _ _
      have hB1 := hB.alloc hB.size (.cells (szA E) 46)
      obtain ⟨v, hv⟩ : ∃ v, Pl.vsz E = v := ⟨_, rfl⟩
      rw [hv] at hvl2
      have HVV := Lib.hid hv
      clear hv
      have hr0 := bE.range
      go_wp2_with (first | refine ldm_size hck rfl _ rfl rfl ?_ | refine ldm_size hr0 rfl _ rfl rfl ?_)
      refine (rvsize_b E v HVV.out _).mono ?_
      rintro e w1 ⟨rfl, hb1⟩
      have bE1 := bE.below hb1 bE.lt
      have hB2 := hB1.trans (hb1.mono hB1.size)
      clear hB1 hb1 bE hB hck hr0
      have hbz1 := bE1.lt
      generalize wo.heap.size = be at *
      cases v with
      | false =>
        have HF : Hid (V = false) := Lib.hid (by rw [HV.out, hvl2.out]; simp)
        clear hvl2
        go_wp2
        go_ret
        exact ⟨by rw [HF.out]; rfl, hB2⟩
      | true =>
        have q1 := bE1.cell 0
        have hkc : k ≤ c := by omega
        go_wp2
        go_loopw [6, 21] (fun _ i wr => ∃ j : Nat, j ≤ k ∧ i = .int .i64 j ∧ Hid (∀ j', j' < j → Pl.Sz.code (l.getD j' Pl.zsz) ≠ E.code) ∧ Below w1.heap.size w1 wr) (fun _ i _ => k - (intOf i).toNat)
        case atStart => exact ⟨0, Nat.zero_le _, rfl, Lib.hid (fun j' h => absurd h (Nat.not_lt_zero _)), Below.refl _ _⟩
        case round =>
          obtain ⟨j, hj, rfl, hne, hBj⟩ := hrel
          obtain ⟨w2, rfl⟩ : ∃ w2, w2 = wr := ⟨_, rfl⟩
          by_cases hjk : j < k
          · have hcj := rangeAt_below (rangeAt_below (HCZ.out j (by omega)) hbz hB2) (Nat.lt_of_lt_of_le hbz hB2.size) hBj
            have HX := Lib.hid ((HMEM.out ((l.getD j Pl.zsz).code)).2 ⟨j, hjk, rfl⟩)
            have HNJ : Hid ((l.getD j Pl.zsz).code ≠ E.code → ∀ j', j' < j + 1 → Pl.Sz.code (l.getD j' Pl.zsz) ≠ E.code) := Lib.hid (fun h j' hj' => by
              rcases Nat.lt_succ_iff_lt_or_eq.1 hj' with h' | rfl
              · exact hne.out j' h'
              · exact h)
            clear hne
            generalize l.getD j Pl.zsz = F at *
            have bE2 := bE1.below hBj hbz1
            have bE3 := bE2.alloc (.cells (szA F) 46)
            have q2 := bE3.cell 0
            have bF : Blk (w2.alloc (.cells (szA F) 46)) w2.heap.size 46 (szA F) := Blk.new w2 _ _
            have q3 := bF.cell 0
            have hBj2 := hBj.alloc hBj.size (.cells (szA F) 46)
            have hne2 : be ≠ w2.heap.size := by have := bE2.lt; omega
            clear bE2 q1
            by_cases heq : F.code = E.code
            · have HF : Hid (V = false) := Lib.hid (by
                have hm : E.code ∈ seenL Pl.Sz.code l k := heq ▸ HX.out
                rw [HV.out, hvl2.out]
                simp [hm])
              have hbeq : (F.code == E.code) = true := by simp [heq]
              clear hvl2 heq HNJ
              go_wp2_with (refine ldm_size hcj rfl _ rfl rfl ?_)
              go_ret
              exact ⟨by rw [HF.out]; rfl, hB2.trans (hBj2.mono hB2.size)⟩
            · have hNJ := Lib.hid (HNJ.out heq)
              clear HNJ
              go_wp2_with (refine ldm_size hcj rfl _ rfl rfl ?_)
              go_roundw
              case rel => exact ⟨j + 1, by omega, by go_num, hNJ, hBj2⟩
              case measure => simp [intOf]; omega
          · obtain rfl : j = k := by omega
            have hnot : Hid (Pl.vl Pl.vsz Pl.Sz.code (l.drop (j + 1)) (seenL Pl.Sz.code l (j + 1)) = U) := Lib.hid (by
              have hn : ¬ E.code ∈ seenL Pl.Sz.code l j := fun h => by
                obtain ⟨j', h1, h2⟩ := (HMEM.out _).1 h
                exact hne.out j' h1 h2
              rw [hvl2.out, HNX.out]
              simp [hn])
            go_wp2
            go_roundw
            case rel => exact ⟨j + 1, by omega, by go_num, hnot, hB2.trans (hBj.mono hB2.size)⟩
            case measure => simp [intOf]; omega
    · obtain rfl : k = l.length := by omega
      have HT : Hid (V = decide (l.length ≤ 20)) := Lib.hid (by rw [HV.out, ← hvl.out, Pl.vl_end]; simp)
      go_wp2
      all_goals (go_ret; exact ⟨by rw [HT.out]; simp [*]; try omega, hB⟩)

set_option maxRecDepth 100000 in
set_option maxHeartbeats 8000000 in
theorem rvalid_heads (A : Option Addr) (l : List Pl.Hd) (c : Nat) (w : World) (hcap : l.length ≤ c) (hmax : l.length ≤ 9223372036854775807) (hI : Hds w A l) :
    Calls Tryd.prog 12 #[.slice A l.length c] w fun e w' => e = .returned (.bool (Pl.vhds l)) ∧ Below w.heap.size w w' := by
  have HV : Hid (Pl.vhds l = (decide (l.length ≤ 40) && Pl.vl Pl.vh Pl.Hd.num (l.drop 0) [])) := Lib.hid (by rw [List.drop_zero]; rfl)
  obtain ⟨U, hU⟩ : ∃ U, Pl.vl Pl.vh Pl.Hd.num (l.drop 0) [] = U := ⟨_, rfl⟩
  rw [hU] at HV
  have HL : Hid (Pl.vl Pl.vh Pl.Hd.num (l.drop 0) (seenL Pl.Hd.num l 0) = U) := Lib.hid hU
  generalize Pl.vhds l = V at *
  clear hU
  have HI := Lib.hid hI
  clear hI
  go_enter Tryd.func12, Tryd.ntmps12
  go_wp2
  go_loopw [3, 4, 6, 9] (fun _ _ _ i wr => ∃ k : Nat, k ≤ l.length ∧ i = .int .i64 k ∧ Hid (Pl.vl Pl.vh Pl.Hd.num (l.drop k) (seenL Pl.Hd.num l k) = U) ∧ Below w.heap.size w wr) (fun _ _ _ i _ => l.length - (intOf i).toNat)
  case atStart => exact ⟨0, Nat.zero_le _, rfl, HL, Below.refl _ _⟩
  case round =>
    clear HL
    obtain ⟨k, hk, rfl, hvl, hB⟩ := hrel
    obtain ⟨wo, rfl⟩ : ∃ wo, wo = wr := ⟨_, rfl⟩
    by_cases hlt : k < l.length
    · obtain ⟨bz, oz, rfl, hbz, hcz⟩ : ∃ bb off, A = some ⟨bb, off, none⟩ ∧ bb < w.heap.size ∧ ∀ j, j < l.length → w.rangeAt bb (off + j * 6) (hdA (l.getD j zhd)).toList := by
        rcases HI.out with h | ⟨bb, off, he, hb, hc⟩
        · rw [h] at hlt; simp at hlt
        · exact ⟨bb, off, he, hb, hc⟩
      have hck := rangeAt_below (hcz k hlt) hbz hB
      have hvl2 := Lib.hid (hvl.out.symm.trans (Pl.vl_step (z := zhd) hlt))
      have HCZ := Lib.hid hcz
      have HMEM := Lib.hid (fun x => mem_seenL (num := Pl.Hd.num) (z := zhd) (l := l) (k := k) (x := x) hk)
      have HNX : Hid (seenL Pl.Hd.num l (k + 1) = Pl.Hd.num (l.getD k zhd) :: seenL Pl.Hd.num l k) := Lib.hid (seenL_succ hlt)
      clear hcz hvl
      have HLV := Lib.hid (fun j : Nat => (rfl : l.getD j zhd = l.getD j zhd))
      clear HLV
      generalize hE : l.getD k zhd = E at hck hvl2 HNX
      clear hE
      have bE : Blk (wo.alloc (.cells (hdA E) 34)) wo.heap.size 34 (hdA E) := Blk.new wo _ _
      have hB1 := hB.alloc hB.size (.cells (hdA E) 34)
      obtain ⟨v, hv⟩ : ∃ v, Pl.vh E = v := ⟨_, rfl⟩
      rw [hv] at hvl2
      have HVV := Lib.hid hv
      clear hv
      have hr0 := bE.range
      go_wp2_with (first | refine ldm_head hck rfl _ rfl rfl ?_ | refine ldm_head hr0 rfl _ rfl rfl ?_)
      refine (rvhead_b E v HVV.out _).mono ?_
      rintro e w1 ⟨rfl, hb1⟩
      have bE1 := bE.below hb1 bE.lt
      have hB2 := hB1.trans (hb1.mono hB1.size)
      clear hB1 hb1 bE hB hck hr0
      have hbz1 := bE1.lt
      generalize wo.heap.size = be at *
      cases v with
      | false =>
        have HF : Hid (V = false) := Lib.hid (by rw [HV.out, hvl2.out]; simp)
        clear hvl2
        go_wp2
        go_ret
        exact ⟨by rw [HF.out]; rfl, hB2⟩
      | true =>
        have q1 := bE1.cell 0
        have hkc : k ≤ c := by omega
        go_wp2
        go_loopw [6, 21] (fun _ i wr => ∃ j : Nat, j ≤ k ∧ i = .int .i64 j ∧ Hid (∀ j', j' < j → Pl.Hd.num (l.getD j' zhd) ≠ E.num) ∧ Below w1.heap.size w1 wr) (fun _ i _ => k - (intOf i).toNat)
        case atStart => exact ⟨0, Nat.zero_le _, rfl, Lib.hid (fun j' h => absurd h (Nat.not_lt_zero _)), Below.refl _ _⟩
        case round =>
          obtain ⟨j, hj, rfl, hne, hBj⟩ := hrel
          obtain ⟨w2, rfl⟩ : ∃ w2, w2 = wr := ⟨_, rfl⟩
          by_cases hjk : j < k
          · have hcj := rangeAt_below (rangeAt_below (HCZ.out j (by omega)) hbz hB2) (Nat.lt_of_lt_of_le hbz hB2.size) hBj
            have HX := Lib.hid ((HMEM.out ((l.getD j zhd).num)).2 ⟨j, hjk, rfl⟩)
            have HNJ : Hid ((l.getD j zhd).num ≠ E.num → ∀ j', j' < j + 1 → Pl.Hd.num (l.getD j' zhd) ≠ E.num) := Lib.hid (fun h j' hj' => by
              rcases Nat.lt_succ_iff_lt_or_eq.1 hj' with h' | rfl
              · exact hne.out j' h'
              · exact h)
            clear hne
            generalize l.getD j zhd = F at *
            have bE2 := bE1.below hBj hbz1
            have bE3 := bE2.alloc (.cells (hdA F) 34)
            have q2 := bE3.cell 0
            have bF : Blk (w2.alloc (.cells (hdA F) 34)) w2.heap.size 34 (hdA F) := Blk.new w2 _ _
            have q3 := bF.cell 0
            have hBj2 := hBj.alloc hBj.size (.cells (hdA F) 34)
            have hne2 : be ≠ w2.heap.size := by have := bE2.lt; omega
            clear bE2 q1
            by_cases heq : F.num = E.num
            · have HF : Hid (V = false) := Lib.hid (by
                have hm : E.num ∈ seenL Pl.Hd.num l k := heq ▸ HX.out
                rw [HV.out, hvl2.out]
                simp [hm])
              have hbeq : (F.num == E.num) = true := by simp [heq]
              clear hvl2 heq HNJ
              go_wp2_with (refine ldm_head hcj rfl _ rfl rfl ?_)
              go_ret
              exact ⟨by rw [HF.out]; rfl, hB2.trans (hBj2.mono hB2.size)⟩
            · have hNJ := Lib.hid (HNJ.out heq)
              clear HNJ
              go_wp2_with (refine ldm_head hcj rfl _ rfl rfl ?_)
              go_roundw
              case rel => exact ⟨j + 1, by omega, by go_num, hNJ, hBj2⟩
              case measure => simp [intOf]; omega
          · obtain rfl : j = k := by omega
            have hnot : Hid (Pl.vl Pl.vh Pl.Hd.num (l.drop (j + 1)) (seenL Pl.Hd.num l (j + 1)) = U) := Lib.hid (by
              have hn : ¬ E.num ∈ seenL Pl.Hd.num l j := fun h => by
                obtain ⟨j', h1, h2⟩ := (HMEM.out _).1 h
                exact hne.out j' h1 h2
              rw [hvl2.out, HNX.out]
              simp [hn])
            go_wp2
            go_roundw
            case rel => exact ⟨j + 1, by omega, by go_num, hnot, hB2.trans (hBj.mono hB2.size)⟩
            case measure => simp [intOf]; omega
    · obtain rfl : k = l.length := by omega
      have HT : Hid (V = decide (l.length ≤ 40)) := Lib.hid (by rw [HV.out, ← hvl.out, Pl.vl_end]; simp)
      go_wp2
      all_goals (go_ret; exact ⟨by rw [HT.out]; simp [*]; try omega, hB⟩)
end Go.Proofs.YtghbipipehglfaaDoor
