/- fittedSets: for each size the set of the heads that it fits. -/
import Derived.Test.YtghbipipehglfaaDoorB5
import Derived.Laws.MakeOwn
import Derived.Laws.Bits64b
import Derived.RegionTactic
import Derived.Deep.RegionWith
namespace Go.Proofs.YtghbipipehglfaaDoor
open Go.RowKit Go.Shelf

/-- block g is n sets -/
def StA (W : World) (g n : Nat) (f : Nat → Nat) : Prop := ∃ arr : Array Value, Blk W g 62 arr ∧ arr.size = n ∧ ∀ q, q < n → arr[q]? = some (.int .u64 (f q : Nat))
section
variable {W W' : World} {g n : Nat} {f f' : Nat → Nat}
theorem StA.lt (h : StA W g n f) : g < W.heap.size := by obtain ⟨arr, h1, _⟩ := h; exact h1.lt
theorem StA.cell (h : StA W g n f) {q : Nat} (hq : q < n) : W.cell? ⟨g, q, none⟩ = some (.int .u64 (f q : Nat)) := by
  obtain ⟨arr, h1, h2, h3⟩ := h
  rw [h1.cell q, h3 q hq]
theorem StA.frozen (h : StA W g n f) (q : Nat) : W.frozen? ⟨g, q, none⟩ = false := by obtain ⟨arr, h1, _⟩ := h; exact h1.frozen q
theorem StA.below {B : Nat} (h : StA W g n f) (hb : Below B W W') (hg : g < B) : StA W' g n f := by
  obtain ⟨arr, h1, h2, h3⟩ := h
  exact ⟨arr, h1.below hb hg, h2, h3⟩
theorem StA.alloc (h : StA W g n f) (o : Obj) : StA (W.alloc o) g n f := by
  obtain ⟨arr, h1, h2, h3⟩ := h
  exact ⟨arr, h1.alloc o, h2, h3⟩
theorem StA.drew (h : StA W g n f) : StA W.drew g n f := h
theorem StA.set (h : StA W g n f) (k v : Nat) (hv : ∀ q, q < n → f' q = if q = k then v else f q) : StA (W.setCell ⟨g, k, none⟩ (.int .u64 v)) g n f' := by
  obtain ⟨arr, h1, h2, h3⟩ := h
  refine ⟨_, h1.set_ k _, by simpa using h2, fun q hq => ?_⟩
  rw [Array.getElem?_setIfInBounds, hv q hq]
  by_cases e : k = q
  · subst e
    rw [if_pos rfl, if_pos (by omega), if_pos rfl]
  · rw [if_neg e, h3 q hq, if_neg (fun e' => e e'.symm)]
theorem StA.congr (h : StA W g n f) (hv : ∀ q, q < n → f' q = f q) : StA W g n f' := by
  obtain ⟨arr, h1, h2, h3⟩ := h
  exact ⟨arr, h1, h2, fun q hq => by rw [h3 q hq, hv q hq]⟩
theorem StA.new (w : World) (n : Nat) : StA (w.alloc (.cells (madeCells #[.int .u64 0] n) 62)) w.heap.size n (fun _ => 0) := by
  refine ⟨_, Blk.new w _ _, size_madeCells _ _, fun q hq => ?_⟩
  rw [Array.getElem?_eq_getElem (by rw [size_madeCells]; exact hq)]
  simp [madeCells, Nat.mod_one]
end
namespace Pl
theorem vl_all {α : Type} {ok : α → Bool} {num : α → Int} : ∀ {l : List α} {s : List Int}, vl ok num l s = true → ∀ x ∈ l, ok x = true
  | [], _, _, _, hx => by simp at hx
  | a :: l, s, h, x, hx => by
    unfold vl at h
    rw [Bool.and_eq_true, Bool.and_eq_true] at h
    rcases List.mem_cons.1 hx with rfl | hx
    · exact h.1
    · exact vl_all h.2.2 x hx
theorem getD_in {α : Type} {l : List α} {z : α} {i : Nat} (h : i < l.length) : l.getD i z ∈ l := by
  rw [List.getD_eq_getElem?_getD, List.getElem?_eq_getElem h]; exact List.getElem_mem h
theorem vszs_ok {l : List Sz} (h : vszs l = true) : l.length ≤ 20 ∧ ∀ k, k < l.length → vsz (l.getD k zsz) = true := by
  unfold vszs at h
  rw [Bool.and_eq_true, decide_eq_true_eq] at h
  exact ⟨h.1, fun k hk => vl_all h.2 _ (getD_in hk)⟩
theorem vhds_ok {l : List Hd} (h : vhds l = true) : l.length ≤ 40 ∧ ∀ k, k < l.length → vh (l.getD k ⟨0, fun _ => 0⟩) = true := by
  unfold vhds at h
  rw [Bool.and_eq_true, decide_eq_true_eq] at h
  exact ⟨h.1, fun k hk => vl_all h.2 _ (getD_in hk)⟩
/-- the heads that size q fits, of the first n -/
def setF (ss : List Sz) (hs : List Hd) (q n : Nat) : Nat := msk (fun j => fit (ss.getD q zsz) (hs.getD j ⟨0, fun _ => 0⟩)) n
end Pl
theorem or_two {m j : Nat} (hm : m < 2 ^ 40) (hj : j < 64) : bits BinOp.or IntKind.u64 (m : Int) (2 ^ j) = ((m ||| 2 ^ j : Nat) : Int) := by
  have h2 : 2 ^ j < 18446744073709551616 := Nat.lt_of_lt_of_le (Nat.pow_lt_pow_right (a := 2) (by omega) hj) (by decide)
  have h := bits_or_u64_nat m (2 ^ j) (by omega) h2
  rw [← h]
  congr 1
theorem info62 : (Tryd.prog.info? 62).map (fun i => (i.zero, i.size, i.bytes)) = some (some (.int .u64 0), 1, 8) := by kernel_rfl

set_option maxRecDepth 100000 in
set_option maxHeartbeats 8000000 in
theorem fitted_any (A B : Option Addr) (ss : List Pl.Sz) (hs : List Pl.Hd) (c d : Nat) (w : World) (hI : Szs w A ss) (hJ : Hds w B hs) :
    Calls Tryd.prog 39 #[.slice A ss.length c, .slice B hs.length d] w fun e w' => ∃ v, e = .returned (.tuple #[v, .int .i64 (bothE ss hs)]) ∧
      (bothE ss hs = 0 → ∃ g, v = .slice (some ⟨g, 0, none⟩) ss.length ss.length ∧ w.heap.size ≤ g ∧ StA w' g ss.length (fun q => Pl.setF ss hs q hs.length)) ∧ (bothE ss hs ≠ 0 → v = .slice none 0 0) ∧ Below w.heap.size w w' := by
  have H1 := Lib.hid (valid_sizes A ss c w hI)
  have H2 := Lib.hid (fun w' (hb : Below w.heap.size w w') => valid_heads B hs d w' (hJ.below hb))
  obtain ⟨u, hu⟩ : ∃ u, Pl.vszs ss = u := ⟨_, rfl⟩
  obtain ⟨v, hv⟩ : ∃ v, Pl.vhds hs = v := ⟨_, rfl⟩
  have HE : Hid (bothE ss hs = if u = true then (if v = true then 0 else 30) else 31) := Lib.hid (by unfold bothE; rw [hu, hv])
  generalize bothE ss hs = E at *
  have HI := Lib.hid hI
  have HJ := Lib.hid hJ
  rw [hu] at H1
  rw [hv] at H2
  clear hI hJ
  go_enter Tryd.func39, Tryd.ntmps39
  go_wp2_with fail
  refine H1.out.mono ?_
  rintro e w1 ⟨rfl, hb1⟩
  cases u with
  | false =>
    go_wp2
    go_ret2
    have h31 : E = 31 := HE.out
    subst h31
    exact ⟨_, rfl, fun h => absurd h (by decide), fun _ => rfl, hb1⟩
  | true =>
    obtain ⟨hs20, hsv⟩ := Pl.vszs_ok hu
    go_wp2_with fail
    refine (H2.out _ hb1).mono ?_
    rintro e w2 ⟨rfl, hb2⟩
    have hB2 := hb1.trans (hb2.mono hb1.size)
    cases v with
    | false =>
      go_wp2
      go_ret2
      have h30 : E = 30 := HE.out
      subst h30
      exact ⟨_, rfl, fun h => absurd h (by decide), fun _ => rfl, hB2⟩
    | true =>
      obtain ⟨hh40, hhv⟩ := Pl.vhds_ok hv
      have HSV := Lib.hid hsv
      have HHV := Lib.hid hhv
      clear hu hv hsv hhv H1 H2 hb1 hb2
      obtain ⟨i0, hi0, hz0, hn0, hy0⟩ := info_parts info62
      have hmk := run_make w2 58 62 i0 (.int .u64 0) Tryd.underlying58 hi0 hz0 .i64 .i64 ss.length ss.length (by omega) (by omega) (by rw [hy0]; omega) (by omega)
      rw [Int.toNat_natCast, hn0, Nat.mul_one] at hmk
      have hst := StA.new w2 ss.length
      have hB3 := hB2.alloc hB2.size (.cells (madeCells #[.int .u64 0] ss.length) 62)
      have hgb := hB2.size
      change Sem.run _ _ _ = Result.ok _ (w2.alloc (.cells (madeCells #[.int .u64 0] ss.length) 62)) at hmk
      generalize w2.alloc (.cells (madeCells #[.int .u64 0] ss.length) 62) = w3 at *
      generalize w2.heap.size = g at *
      clear hi0 hz0 hn0 hy0 hB2
      go_wp2
      go_loopw [7, 8, 9, 10, 22] (fun _ _ _ _ i wr => ∃ k : Nat, k ≤ ss.length ∧ i = .int .i64 k ∧ StA wr g ss.length (fun q => if q < k then Pl.setF ss hs q hs.length else 0) ∧ Below w.heap.size w wr) (fun _ _ _ _ i _ => ss.length - (intOf i).toNat)
      case atStart => exact ⟨0, Nat.zero_le _, rfl, hst.congr (fun q _ => if_neg (Nat.not_lt_zero q)), hB3⟩
      case round =>
        clear hst hB3 hmk
        obtain ⟨k, hk, rfl, hst, hB⟩ := hrel
        obtain ⟨wo, rfl⟩ : ∃ wo, wo = wr := ⟨_, rfl⟩
        by_cases hlt : k < ss.length
        · obtain ⟨bz, oz, rfl, hbz, hcz⟩ : ∃ bb off, A = some ⟨bb, off, none⟩ ∧ bb < w.heap.size ∧ ∀ j, j < ss.length → w.rangeAt bb (off + j * 17) (szA (ss.getD j Pl.zsz)).toList := by
            rcases HI.out with h | ⟨bb, off, he, hb, hc⟩
            · rw [h] at hlt; simp at hlt
            · exact ⟨bb, off, he, hb, hc⟩
          have hck := rangeAt_below (hcz k hlt) hbz hB
          have hsv := Lib.hid (HSV.out k hlt)
          have HSF : Hid (∀ n, Pl.setF ss hs k n = Pl.msk (fun j => Pl.fit (ss.getD k Pl.zsz) (hs.getD j ⟨0, fun _ => 0⟩)) n) := Lib.hid (fun _ => rfl)
          clear hcz
          generalize ss.getD k Pl.zsz = E1 at *
          have bE : Blk (wo.alloc (.cells (szA E1) 46)) wo.heap.size 46 (szA E1) := Blk.new wo _ _
          have hB1 := hB.alloc hB.size (.cells (szA E1) 46)
          have hst1 := hst.alloc (.cells (szA E1) 46)
          have hgl := hst.lt
          go_wp2_with (refine ldm_size hck rfl _ rfl rfl ?_)
          have hbe := bE.lt
          have hgne : g ≠ wo.heap.size := by omega
          generalize wo.alloc (.cells (szA E1) 46) = w5 at *
          generalize wo.heap.size = be at *
          clear hst hB hck
          go_loopw [9, 10, 29] (fun _ _ i wr => ∃ j : Nat, j ≤ hs.length ∧ i = .int .i64 j ∧ StA wr g ss.length (fun q => if q = k then Pl.setF ss hs k j else if q < k then Pl.setF ss hs q hs.length else 0) ∧ Blk wr be 46 (szA E1) ∧ Below w.heap.size w wr) (fun _ _ i _ => hs.length - (intOf i).toNat)
          case atStart =>
            refine ⟨0, Nat.zero_le _, rfl, hst1.congr (fun q _ => ?_), bE, hB1⟩
            by_cases e : q = k
            · subst e; rw [if_pos rfl, if_neg (Nat.lt_irrefl _), HSF.out]; rfl
            · rw [if_neg e]
          case round =>
            clear hst1 bE hB1 hbe hgl
            obtain ⟨j, hj, rfl, hst, bE, hB⟩ := hrel
            obtain ⟨wp, rfl⟩ : ∃ wp, wp = wr := ⟨_, rfl⟩
            have hbe := bE.lt
            have hgl := hst.lt
            by_cases hjt : j < hs.length
            · obtain ⟨by_, oy, rfl, hby, hcy⟩ : ∃ bb off, B = some ⟨bb, off, none⟩ ∧ bb < w.heap.size ∧ ∀ j, j < hs.length → w.rangeAt bb (off + j * 6) (hdA (hs.getD j zhd)).toList := by
                rcases HJ.out with h | ⟨bb, off, he, hb, hc⟩
                · rw [h] at hjt; simp at hjt
                · exact ⟨bb, off, he, hb, hc⟩
              have hcj := rangeAt_below (hcy j hjt) hby hB
              have hhj := Lib.hid (HHV.out j hjt)
              have HSJ : Hid (Pl.setF ss hs k (j + 1) = Pl.setF ss hs k j ||| (if Pl.fit E1 (hs.getD j zhd) = true then 2 ^ j else 0)) := Lib.hid (by rw [HSF.out, HSF.out]; rfl)
              clear hcy
              generalize hs.getD j zhd = F1 at *
              have bE1 := bE.alloc (.cells (hdA F1) 34)
              have bF : Blk (wp.alloc (.cells (hdA F1) 34)) wp.heap.size 34 (hdA F1) := Blk.new wp _ _
              have hB1 := hB.alloc hB.size (.cells (hdA F1) 34)
              have hst1 := hst.alloc (.cells (hdA F1) 34)
              have r1 := bE1.range
              have r2 := bF.range
              obtain ⟨b, hb⟩ : ∃ b, Pl.fit E1 F1 = b := ⟨_, rfl⟩
              have HFT := Lib.hid (fun w => fits_any E1 F1 hsv.out hhj.out w)
              rw [hb] at HFT HSJ
              clear hb
              have hrj : j < 64 := by omega
              have hO := Lib.hid (fun w => only_any j hrj w)
              have hgz := hst1.lt
              have hbz6 := bE1.lt
              clear hst bE hB bF
              cases b with
              | false =>
                go_wp2_with (first | refine ldm_head hcj rfl _ rfl rfl ?_ | refine ldm_size r1 rfl _ rfl rfl ?_ | refine ldm_head r2 rfl _ rfl rfl ?_ | (go_at_call 43; refine (HFT.out _).mono ?_; rintro e w6 ⟨rfl, hb6⟩))
                go_roundw
                case rel =>
                  refine ⟨j + 1, by omega, by go_num, (hst1.below hb6 hgz).congr (fun q _ => ?_), bE1.below hb6 hbz6, hB1.trans (hb6.mono hB1.size)⟩
                  by_cases e : q = k
                  · rw [if_pos e, if_pos e, HSJ.out]; simp
                  · rw [if_neg e, if_neg e]
                case measure => simp [intOf]; omega
              | true =>
                go_wp2_with (first | refine ldm_head hcj rfl _ rfl rfl ?_ | refine ldm_size r1 rfl _ rfl rfl ?_ | refine ldm_head r2 rfl _ rfl rfl ?_ | (go_at_call 43; refine (HFT.out _).mono ?_; rintro e w6 ⟨rfl, hb6⟩))
                have hst6 := hst1.below hb6 hgz
                have bE6 := bE1.below hb6 hbz6
                have hB6 := hB1.trans (hb6.mono hB1.size)
                have hcell : w6.cell? ⟨g, k, none⟩ = some (.int .u64 (Pl.setF ss hs k j : Nat)) := by simpa using hst6.cell hlt
                have hfz := hst6.frozen k
                have HST := Lib.hid hst6
                clear hst6 hst1 bE1 hB1 hb6 r1 r2 hcj hgz hbz6
                have hML : Pl.setF ss hs k j < 2 ^ 40 := Nat.lt_of_lt_of_le (Pl.msk_lt _ j) (Nat.pow_le_pow_right (by omega) (by omega))
                have HOR := Lib.hid (or_two hML hrj)
                have HNX : Hid (∀ q, q < ss.length → (if q = k then Pl.setF ss hs k (j + 1) else if q < k then Pl.setF ss hs q hs.length else 0) = if q = k then Pl.setF ss hs k j ||| 2 ^ j else (if q = k then Pl.setF ss hs k j else if q < k then Pl.setF ss hs q hs.length else 0)) := Lib.hid (fun q _ => by
                  by_cases e : q = k
                  · rw [if_pos e, if_pos e, HSJ.out]; simp
                  · rw [if_neg e, if_neg e, if_neg e])
                have HN2 := Lib.hid (HST.out.set k _ HNX.out)
                have hgbe : be ≠ g := fun e => hgne e.symm
                clear hML HSJ HNX HST
                generalize hM : Pl.setF ss hs k j = M at hcell HOR HN2
                clear hM
                go_region_with (go_at_call 73; refine (hO.out _).mono ?_; rintro e w' ⟨rfl, rfl⟩)
                all_goals
                  rw [HOR.out]
                  have hst7 := HN2.out.drew
                  have bE7 := (bE6.far (p := ⟨g, k, none⟩) hgbe (.int .u64 ((M ||| 2 ^ j : Nat) : Int))).drew
                  have hB7 := (hB6.setCell (p := ⟨g, k, none⟩) hgb (.int .u64 ((M ||| 2 ^ j : Nat) : Int))).drew
                  generalize (w6.setCell ⟨g, k, none⟩ (.int .u64 ((M ||| 2 ^ j : Nat) : Int))).drew = w7 at *
                  clear hcell hfz bE6 hB6 HOR HN2
                  go_wp2
                  go_roundw
                  case rel => exact ⟨j + 1, by omega, by go_num, hst7, bE7, hB7⟩
                  case measure => simp [intOf]; omega
            · obtain rfl : j = hs.length := by omega
              go_wp2
              go_roundw
              case rel =>
                refine ⟨k + 1, by omega, by go_num, hst.congr (fun q hq => ?_), hB⟩
                by_cases e : q = k
                · subst e; rw [if_pos rfl, if_pos (Nat.lt_succ_self _)]
                · rw [if_neg e]
                  by_cases e2 : q < k
                  · rw [if_pos e2, if_pos (by omega)]
                  · rw [if_neg e2, if_neg (by omega)]
              case measure => simp [intOf]; omega
        · obtain rfl : k = ss.length := by omega
          go_wp2
          go_ret2
          have h0 : E = 0 := HE.out
          subst h0
          exact ⟨_, rfl, fun _ => ⟨g, rfl, hgb, hst.congr (fun q hq => by rw [if_pos hq])⟩, fun h => absurd rfl h, hB⟩
end Go.Proofs.YtghbipipehglfaaDoor
