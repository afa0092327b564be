/- Assign, of the document. -/
import Derived.Test.YtlfbfdhdkccaeaaA2
import Derived.Test.YtlfbfdhdkccaeaaK7
namespace Go.Proofs.Ytlfbfdhdkccaeaa
open Go.RowKit Go.Shelf Go.Sort

abbrev StJ := StF 3 (Value.int .i64)
theorem Pl.fm_lt (f : Nat → Int) {b k : Nat} (h0 : 0 < b) (hk : k ≤ b) : Pl.fm f k < b := by
  rcases Nat.eq_zero_or_pos k with rfl | h
  · exact h0
  · exact Nat.lt_of_lt_of_le (Pl.fm_spec f k h).1 hk
/-- what is kept of the barrels when one run more is given -/
theorem as_append2 {W W1 : World} {B gr gf b cap k : Nat} {F : Nat → Value} {rows : List (List Pl.Rn)} {fr : Nat → Int} {x : Pl.Rn} {u : Value} (h : RwR W B (.slice (some ⟨gr, 0, none⟩) b cap) F rows) (hn : rows.length = b) (hk : k < b) (hs : StJ W gf b fr) (hne : gf ≠ gr) (hF : ∀ j, j < b → (F j).ownBlock ≠ some gf)
    (ho : W1.ownsRow B 66 4 u ((rows.getD k []).length + 1) (flt rnL (rows.getD k []) ++ rnL x)) (hg : W.grownBy W1 (F k).ownBlock) (hl : u.ownBlock = (F k).ownBlock ∨ u.ownBlock = some W.heap.size) :
    RwR (W1.setCell ⟨gr, k, none⟩ u) B (.slice (some ⟨gr, 0, none⟩) b cap) (fun j => if j = k then u else F j) (rows.set k (rows.getD k [] ++ [x])) ∧ StJ (W1.setCell ⟨gr, k, none⟩ u) gf b fr ∧ (∀ j, j < b → (if j = k then u else F j).ownBlock ≠ some gf) ∧ Below B W (W1.setCell ⟨gr, k, none⟩ u) := by
  obtain ⟨h1, h2⟩ := Rws.grow h hn hk ho hg hl
  have hgf := hs.lt
  refine ⟨h1, ?_, fun j hj => ?_, h2⟩
  · have hs1 : StJ W1 gf b fr := by
      obtain ⟨arr, a1, a2, a3⟩ := hs
      exact ⟨arr, (hg.block gf hgf (fun e => hF k hk e.symm)).trans a1, a2, a3⟩
    exact hs1.far (p := ⟨gr, k, none⟩) hne u
  · split
    · rcases hl with e | e
      · rw [e]; exact hF k hk
      · rw [e]; intro e2; cases e2; omega
    · exact hF j hj

set_option maxRecDepth 100000 in
set_option maxHeartbeats 32000000 in
theorem rAssign_any (A : Option Addr) (l : List Pl.Bt) (c n : Nat) (hn : l.length = n) (AR : Option Addr) (rows : List (List Int)) (cr m : Nat) (hm : rows.length = m) (hm6 : m ≤ 60) (hlen : ∀ k, k < m → (rows.getD k []).length ≤ 60) (bb cl : Int) (w : World) (hI : Bts w A l) (hR : RR inL 1 w AR rows) :
    Calls Try.prog 37 #[.slice A n c, .slice AR m cr, .int .i64 bb, .int .i64 cl] w fun e w' => ∃ v f, e = .returned (.tuple #[v, .int .i64 (Pl.asE l rows bb cl)]) ∧ RwR w' w.heap.size v f (Pl.asV l rows bb cl) ∧ Below w.heap.size w w' := by
  have HC := Lib.hid (rCheck_any A l c n hn AR rows cr m hm (by omega) w hI hR)
  obtain ⟨CE, hCE⟩ : ∃ CE, Pl.ckE l rows = CE := ⟨_, rfl⟩
  rw [hCE] at HC
  by_cases hz : CE = 0
  rotate_left
  · have HF : Hid (Pl.asE l rows bb cl = CE ∧ Pl.asV l rows bb cl = []) := Lib.hid (by
      have h1 : Pl.asE l rows bb cl = CE := by rw [Pl.asE_no (by rw [hCE]; exact hz), hCE]
      exact ⟨h1, Pl.asV_no (by rw [h1]; exact hz)⟩)
    have hz1 : (CE != 0) = true := by simp [hz]
    rw [HF.out.1, HF.out.2]
    clear hI hn hm hR hCE hz hlen
    go_enter Try.func37, Try.ntmps37
    go_wp2_with fail
    refine HC.out.mono ?_
    rintro e w1 ⟨rfl, hb1⟩
    go_wp2
    go_ret2
    exact ⟨_, fun _ => .slice none 0 0, rfl, Rws.nil _ _ _, hb1⟩
  subst hz
  obtain ⟨sh, hsh⟩ : ∃ sh, Pl.shop bb cl = sh := ⟨_, rfl⟩
  have HSB := Lib.hid (fun w => shop_b bb cl sh hsh w)
  cases sh
  · have HF : Hid (Pl.asE l rows bb cl = 2 ∧ Pl.asV l rows bb cl = []) := Lib.hid (by
      have h1 : Pl.asE l rows bb cl = 2 := Pl.asE_bad hCE hsh
      exact ⟨h1, Pl.asV_no (by rw [h1]; decide)⟩)
    rw [HF.out.1, HF.out.2]
    clear hI hn hm hR hCE hsh hlen
    go_enter Try.func37, Try.ntmps37
    go_wp2_with fail
    refine HC.out.mono ?_
    rintro e w1 ⟨rfl, hb1⟩
    go_wp2_with (go_at_call 67; refine (HSB.out _).mono ?_; rintro e w4 ⟨rfl, rfl⟩)
    go_ret2
    exact ⟨_, fun _ => .slice none 0 0, rfl, Rws.nil _ _ _, hb1⟩
  obtain ⟨hv, hix⟩ := Pl.ck_zero hCE
  have hok := Pl.ok_of hv
  have hn4 : n ≤ 40 := hn ▸ hok.len
  have hS := Pl.shop_true.1 hsh
  obtain ⟨b, rfl⟩ : ∃ b : Nat, bb = b := ⟨bb.toNat, by omega⟩
  have hb0 : 0 < b := by omega
  have hb8 : b ≤ 8 := by omega
  have hc0 : 0 ≤ cl := by omega
  have hc1 : cl ≤ 100 := by omega
  have HE0 := Pl.asE_ok hCE hsh
  have HV0 : Hid (Pl.asV l rows b cl = (Pl.asg l cl b rows m).2) := Lib.hid (by rw [Pl.asV_ok HE0, hm]; rfl)
  rw [HE0]
  generalize Pl.asV l rows (b : Int) cl = VV at *
  have HI := Lib.hid hI
  have HN := Lib.hid hn
  have HOK := Lib.hid hok
  have HIX : Hid (∀ k, k < m → ∀ j (hj : j < (rows.getD k []).length), ∃ q : Nat, (rows.getD k [])[j] = q ∧ q < n) := Lib.hid (fun k hk j hj => by
    obtain ⟨h1, h2⟩ := hix k (by rw [hm]; exact hk) j hj
    rw [List.getD_eq_getElem?_getD, List.getElem?_eq_getElem hj] at h1 h2
    change 0 ≤ (rows.getD k [])[j] at h1
    change (rows.getD k [])[j] < _ at h2
    exact ⟨(rows.getD k [])[j].toNat, by omega, by omega⟩)
  have HBD : Hid (∀ k, k ≤ m → ∀ q, 0 ≤ (Pl.asg l cl b rows k).1 q ∧ (Pl.asg l cl b rows k).1 q ≤ 1800000) := Lib.hid (fun k hk q => by
    have := Pl.asg_bd hok hc0 hc1 (b := b) (rows := rows) (fun j hj => ⟨hix j hj, hlen j (by rw [← hm]; exact hj)⟩) k (by rw [hm]; exact hk) q
    omega)
  have HBA : Hid (∀ k, k < m → ∀ t j, j ≤ (rows.getD k []).length → ∀ q, 0 ≤ (Pl.ar l cl (Pl.asg l cl b rows k) t (rows.getD k []) j).1 q ∧ (Pl.ar l cl (Pl.asg l cl b rows k) t (rows.getD k []) j).1 q ≤ 1900000) := Lib.hid (fun k hk t j hj q => by
    have h1 := Pl.ar_bd hok hc0 hc1 (k := t) (s := Pl.asg l cl b rows k) (hix k (by rw [hm]; exact hk)) (B := 1800000) (fun q => by
      have := Pl.asg_bd hok hc0 hc1 (b := b) (rows := rows) (fun j hj => ⟨hix j hj, hlen j (by rw [← hm]; exact hj)⟩) k (by rw [hm]; omega) q
      omega) j hj q
    have := hlen k hk
    omega)
  have HAL : Hid (∀ k, (Pl.asg l cl b rows k).2.length = b) := Lib.hid (fun k => Pl.asg_len k)
  have HRL : Hid (∀ k t j, (Pl.ar l cl (Pl.asg l cl b rows k) t (rows.getD k []) j).2.length = b) := Lib.hid (fun k t j => by rw [Pl.ar_len]; exact Pl.asg_len k)
  have HLL : Hid (∀ k, k < m → ∀ t j, j ≤ (rows.getD k []).length → ((Pl.ar l cl (Pl.asg l cl b rows k) t (rows.getD k []) j).2.getD t []).length ≤ 4000) := Lib.hid (fun k hk t j hj => by
    have h1 := Pl.ar_ll (l := l) (cl := cl) (s := Pl.asg l cl b rows k) (k := t) (row := rows.getD k []) t j
    have h2 := Pl.asg_ll (l := l) (cl := cl) (b := b) (rows := rows) t k (by rw [hm]; omega) (fun k' hk' => hlen k' (by omega))
    have := hlen k hk
    omega)
  have HFMB : Hid (∀ k, Pl.fm (Pl.asg l cl b rows k).1 b < b) := Lib.hid (fun k => (Pl.fm_spec _ b hb0).1)
  have HLEN := Lib.hid hlen
  have HGR : Hid (∀ k, k < m → ∃ b' off, AR = some ⟨b', off, none⟩ ∧ b' < w.heap.size ∧ ∃ A' c', w.cell? ⟨b', off + k, none⟩ = some (.slice A' (rows.getD k []).length c') ∧ Rows inL 1 w A' (rows.getD k []) ∧ (rows.getD k []).length ≤ c' ∧ c' ≤ maxLen) := Lib.hid (fun k hk => rr_row hR (by rw [hm]; exact hk))
  clear hI hn hm hR hCE hsh hlen hix hv hok hS HE0
  obtain ⟨i9, hi9, hz9, hn9, hy9⟩ := info_parts info89
  obtain ⟨i3, hi3, hz3, hn3, hy3⟩ := info_parts info3
  obtain ⟨i6, hi6, hz6, hn6, hy6⟩ := info_parts infoRn'
  go_enter Try.func37, Try.ntmps37
  go_wp2_with fail
  refine HC.out.mono ?_
  rintro e w1 ⟨rfl, hb1⟩
  have hmk := run_make w1 53 89 i9 (.slice none 0 0) Try.underlying53 hi9 hz9 .i64 .i64 (b : Int) (b : Int) (by omega) (by omega) (by rw [hy9]; omega) (by omega)
  rw [Int.toNat_natCast, hn9, Nat.mul_one] at hmk
  change Sem.run _ _ _ = Result.ok _ (w1.alloc (.cells (madeCells #[.slice none 0 0] b) 89)) at hmk
  have hR0 := Rws.made w1 w.heap.size b hb1.size (by unfold maxLen; omega)
  have hB2 := hb1.alloc hb1.size (.cells (madeCells #[.slice none 0 0] b) 89)
  have hsz2 : (w1.alloc (.cells (madeCells #[.slice none 0 0] b) 89)).heap.size = w1.heap.size + 1 := by simp
  have hgb : w.heap.size ≤ w1.heap.size := hb1.size
  obtain ⟨gr, hgr⟩ : ∃ gr, w1.heap.size = gr := ⟨_, rfl⟩
  rw [hgr] at hR0 hmk hsz2 hgb
  generalize w1.alloc (.cells (madeCells #[.slice none 0 0] b) 89) = w2 at *
  have hmk2 := run_make w2 42 3 i3 (.int .i64 0) Try.underlying42 hi3 hz3 .i64 .i64 (b : Int) (b : Int) (by omega) (by omega) (by rw [hy3]; omega) (by omega)
  rw [Int.toNat_natCast, hn3, Nat.mul_one, hsz2] at hmk2
  change Sem.run _ _ _ = Result.ok _ (w2.alloc (.cells (madeCells #[.int .i64 0] b) 3)) at hmk2
  have hR1 := hR0.below ((Below.refl w2.heap.size w2).alloc (Nat.le_refl _) (.cells (madeCells #[.int .i64 0] b) 3))
  have hB3 := hB2.alloc hB2.size (.cells (madeCells #[.int .i64 0] b) 3)
  have hst : StJ (w2.alloc (.cells (madeCells #[.int .i64 0] b) 3)) w2.heap.size b (fun _ => 0) := StF.new w2 b 3 (Value.int .i64) 0
  rw [hsz2] at hst
  generalize w2.alloc (.cells (madeCells #[.int .i64 0] b) 3) = w3 at *
  have HR1 := Lib.hid hR1
  have HB3 := Lib.hid hB3
  have HST := Lib.hid hst
  clear hR0 hR1 hB2 hB3 hst hi9 hz9 hn9 hy9 hi3 hz3 hn3 hy3 HC hb1
  go_wp2_with (go_at_call 67; refine (HSB.out _).mono ?_; rintro e w4 ⟨rfl, rfl⟩)
  clear hmk hmk2
  have HS00 : Hid ((Pl.asg l cl b rows 0).1 = (fun _ => 0) ∧ (Pl.asg l cl b rows 0).2 = List.replicate b []) := Lib.hid ⟨rfl, rfl⟩
  go_loopw [13, 14, 15, 16, 17] (fun i _ _ _ _ wr => ∃ k : Nat, ∃ F, k ≤ m ∧ i = .int .i64 k ∧ RwR wr w.heap.size (.slice (some ⟨gr, 0, none⟩) b b) F (Pl.asg l cl b rows k).2 ∧ StJ wr (gr + 1) b (Pl.asg l cl b rows k).1 ∧ Hid (∀ j, j < b → (F j).ownBlock ≠ some (gr + 1)) ∧ Below w.heap.size w wr) (fun i _ _ _ _ _ => m - (intOf i).toNat)
  case atStart => exact ⟨0, (fun _ => .slice none 0 0), Nat.zero_le _, rfl, by rw [HS00.out.2]; exact HR1.out, by rw [HS00.out.1]; exact HST.out, Lib.hid (fun j _ => by simp [Value.ownBlock]), HB3.out⟩
  case round =>
    clear HR1 HST HB3
    obtain ⟨k, F, hk, rfl, hR, hS, hF, hW⟩ := hrel
    obtain ⟨wo, rfl⟩ : ∃ wo, wo = wr := ⟨_, rfl⟩
    by_cases hlt : k < m
    · have hltI : (k : Int) < (m : Int) := by omega
      obtain ⟨b', off, rfl, hb', A', c', h1, h2, h3, h4⟩ := HGR.out k hlt
      have HQ0 := Lib.hid (fun W (hB : Below w.heap.size w W) => (hB.cell (p := ⟨b', off + k, none⟩) hb').trans h1)
      have HX := Lib.hid h2
      have hLk := HLEN.out k hlt
      have HIXk := Lib.hid (HIX.out k hlt)
      have HBAk := Lib.hid (HBA.out k hlt (Pl.fm (Pl.asg l cl b rows k).1 b))
      have HRLk := Lib.hid (HRL.out k (Pl.fm (Pl.asg l cl b rows k).1 b))
      have HLLk := Lib.hid (HLL.out k hlt (Pl.fm (Pl.asg l cl b rows k).1 b))
      have htb := HFMB.out k
      have HNEXT : Hid (Pl.asg l cl b rows (k + 1) = Pl.ar l cl (Pl.asg l cl b rows k) (Pl.fm (Pl.asg l cl b rows k).1 b) (rows.getD k []) (rows.getD k []).length) := Lib.hid rfl
      obtain ⟨row, hrow⟩ : ∃ r, rows.getD k [] = r := ⟨_, rfl⟩
      rw [hrow] at HQ0 HX hLk HIXk HBAk HRLk HLLk HNEXT
      obtain ⟨S0, hS0⟩ : ∃ s, Pl.asg l cl b rows k = s := ⟨_, rfl⟩
      rw [hS0] at HBAk HRLk HLLk HNEXT hR hS htb
      have HFS : Hid (∀ j, Pl.fm S0.1 (j + 1) = if S0.1 j < S0.1 (Pl.fm S0.1 j) then j else Pl.fm S0.1 j) := Lib.hid (fun _ => rfl)
      have HFL : Hid (∀ j, j ≤ b → Pl.fm S0.1 j < b) := Lib.hid (fun j hj => Pl.fm_lt _ hb0 hj)
      have HF0 : Hid (Pl.fm S0.1 0 = 0) := Lib.hid rfl
      obtain ⟨U, hU⟩ : ∃ u, row.length = u := ⟨_, rfl⟩
      have HU := Lib.hid hU
      rw [hU] at HQ0 hLk HBAk HLLk HNEXT
      have HRR := Lib.hid hR
      have HSS := Lib.hid hS
      have HWW := Lib.hid hW
      clear h1 h2 h3 h4 hrow hS0 hU hR hS hW
      go_wp2
      go_loopw [14, 15] (fun bv i wr => ∃ j : Nat, j ≤ b ∧ i = .int .i64 j ∧ bv = .int .i64 (Pl.fm S0.1 j : Nat) ∧ Below wo.heap.size wo wr) (fun _ i _ => b - (intOf i).toNat)
      case atStart => exact ⟨0, Nat.zero_le _, rfl, by rw [HF0.out]; rfl, Below.refl _ _⟩
      case round =>
        obtain ⟨j, hj, rfl, rfl, hW2⟩ := hrel
        obtain ⟨w4, rfl⟩ : ∃ w4, w4 = wr := ⟨_, rfl⟩
        by_cases hltj : j < b
        · have hltjI : (j : Int) < (b : Int) := by omega
          have hfl := HFL.out j hj
          have hflI : ((Pl.fm S0.1 j : Nat) : Int) < (b : Int) := by omega
          have HFSj := Lib.hid (HFS.out j)
          have y0 := fun s : Ext w4 => s.cell (p := ⟨gr + 1, j, none⟩) (((HSS.out.below hW2 HSS.out.lt).cell hltj))
          have y1 := fun s : Ext w4 => s.cell (p := ⟨gr + 1, Pl.fm S0.1 j, none⟩) (((HSS.out.below hW2 HSS.out.lt).cell hfl))
          generalize Pl.fm S0.1 j = p at *
          by_cases hcmp : S0.1 j < S0.1 p
          · have HE : Hid (Pl.fm S0.1 (j + 1) = j) := Lib.hid (by rw [HFSj.out, if_pos hcmp])
            generalize S0.1 j = f1 at *
            generalize S0.1 p = f2 at *
            go_wp2
            refine wp_region_ext (by kernel_rfl) (by kernel_rfl) ?_
            repeat (go_big_quiet_step (fail))
            refine wpQuiet_nil ?_
            rintro _ ⟨s, rfl⟩
            go_wp2
            go_roundw
            case rel => exact ⟨j + 1, by omega, by go_num, by rw [HE.out], hW2.trans (s.h.mono hW2.size)⟩
            case measure => simp [intOf]; omega
          · have HE : Hid (Pl.fm S0.1 (j + 1) = p) := Lib.hid (by rw [HFSj.out, if_neg hcmp])
            generalize S0.1 j = f1 at *
            generalize S0.1 p = f2 at *
            go_wp2
            refine wp_region_ext (by kernel_rfl) (by kernel_rfl) ?_
            repeat (go_big_quiet_step (fail))
            refine wpQuiet_nil ?_
            rintro _ ⟨s, rfl⟩
            go_wp2
            go_roundw
            case rel => exact ⟨j + 1, by omega, by go_num, by rw [HE.out], hW2.trans (s.h.mono hW2.size)⟩
            case measure => simp [intOf]; omega
        · obtain rfl : b = j := by omega
          obtain ⟨t, ht⟩ : ∃ t, Pl.fm S0.1 b = t := ⟨_, rfl⟩
          rw [ht] at HBAk HRLk HLLk HNEXT htb ⊢
          have HA0 : Hid (Pl.ar l cl S0 t row 0 = S0) := Lib.hid rfl
          have HR4 := Lib.hid (HRR.out.below hW2)
          have HS4 := Lib.hid (HSS.out.below hW2 HSS.out.lt)
          have HW4 := Lib.hid (HWW.out.trans (hW2.mono HWW.out.size))
          clear ht hW2 HRR HSS HWW HFS HFL HF0
          go_wp2
          go_loopw [16, 17] (fun i _ wr => ∃ j : Nat, ∃ F, j ≤ U ∧ i = .int .i64 j ∧ RwR wr w.heap.size (.slice (some ⟨gr, 0, none⟩) b b) F (Pl.ar l cl S0 t row j).2 ∧ StJ wr (gr + 1) b (Pl.ar l cl S0 t row j).1 ∧ Hid (∀ j, j < b → (F j).ownBlock ≠ some (gr + 1)) ∧ Below w.heap.size w wr) (fun i _ _ => U - (intOf i).toNat)
          case atStart => exact ⟨0, F, Nat.zero_le _, rfl, by rw [HA0.out]; exact HR4.out, by rw [HA0.out]; exact HS4.out, hF, HW4.out⟩
          case round =>
            clear HR4 HS4 HW4 hF
            obtain ⟨j, F, hj, rfl, hR, hS, hF, hW⟩ := hrel
            obtain ⟨w5, rfl⟩ : ∃ w5, w5 = wr := ⟨_, rfl⟩
            have q0 := HQ0.out w5 hW
            by_cases hltj : j < U
            · have hltjI : (j : Int) < (U : Int) := by omega
              have hjx : j < row.length := by rw [HU.out]; exact hltj
              obtain ⟨bx, ox, rfl, hbx, hcx⟩ := HX.out.open (by omega)
              have r0 := row_cell (mk := Value.int .i64) hbx hcx hW hjx
              obtain ⟨q, hq, hqn⟩ := HIXk.out j hjx
              rw [hq] at r0
              have HQ : Hid (row.getD j 0 = (q : Int)) := Lib.hid (by rw [List.getD_eq_getElem?_getD, List.getElem?_eq_getElem hjx]; exact hq)
              have hqI : (q : Int) < (n : Int) := by omega
              obtain ⟨cb, hcb⟩ : ∃ c, ((j : Int) == 0) = c := ⟨_, rfl⟩
              have HCB : Hid (decide (j = 0) = cb) := Lib.hid (by
                rw [← hcb]
                by_cases h : j = 0
                · subst h; rfl
                · have : ((j : Int) == 0) = false := by simp [h]
                  rw [this, decide_eq_false h])
              obtain ⟨hb1, hb2⟩ := HBAk.out j (by omega) t
              have hlen2 := HRLk.out j
              have hll := HLLk.out j (by omega)
              have HST1 : Hid (Pl.ar l cl S0 t row (j + 1) = (fun q' => if q' = t then (Pl.mkr l cl ((Pl.ar l cl S0 t row j).1 t) q cb).t else (Pl.ar l cl S0 t row j).1 q', (Pl.ar l cl S0 t row j).2.set t ((Pl.ar l cl S0 t row j).2.getD t [] ++ [Pl.mkr l cl ((Pl.ar l cl S0 t row j).1 t) q cb]))) := Lib.hid (by rw [Pl.ar, HQ.out, HCB.out])
              have f0 := hS.cell (q := t) htb
              have htI : (t : Int) < (b : Int) := by omega
              obtain ⟨S, hSe⟩ : ∃ s, Pl.ar l cl S0 t row j = s := ⟨_, rfl⟩
              rw [hSe] at HST1 hR hS f0 hb1 hb2 hlen2 hll
              obtain ⟨fk, hfk⟩ : ∃ x, S.1 t = x := ⟨_, rfl⟩
              rw [hfk] at HST1 f0 hb1 hb2
              have hvb := HOK.out.vb q (by rw [HN.out]; exact hqn)
              have HMK : Hid (Pl.mkr l cl fk q cb = ⟨q, fk, fk + (Pl.hc cb cl + Pl.len (Pl.at' l q)), cb⟩) := Lib.hid rfl
              obtain ⟨l0, l1⟩ := hvb.len0
              obtain ⟨bz, oz, rfl, hbz, hcz⟩ := bts_open HI.out (by rw [HN.out]; omega)
              have hrb := bts_cells hbz hcz hW (i := q) (by rw [HN.out]; exact hqn)
              have hbz5 : bz < w5.heap.size := Nat.lt_of_lt_of_le hbz hW.size
              have hbx5 : bx < w5.heap.size := Nat.lt_of_lt_of_le hbx hW.size
              have hb5 : b' < w5.heap.size := Nat.lt_of_lt_of_le hb' hW.size
              have HVB := Lib.hid hvb
              have HR5 := Lib.hid hR
              have HS5 := Lib.hid hS
              have HW5 := Lib.hid hW
              have hgf5 : gr + 1 < w5.heap.size := hS.lt
              have hgr5 : gr < w5.heap.size := by omega
              have HHB := Lib.hid (fun W => hours_b (Pl.at' l q) hvb W)
              clear hcx hcz hq hSe hfk hvb hR hS hW
              generalize Pl.at' l q = E at *
              obtain ⟨LE, hLE⟩ : ∃ x, Pl.len E = x := ⟨_, rfl⟩
              rw [hLE] at HMK HHB l0 l1
              have k1 : IntKind.i64.wrap (fk + LE) = fk + LE := IntWalk.i64_in _ (by omega)
              clear hLE HVB
              go_wp2
              have HS0 : Hid (Below w5.heap.size w5 w5.drew) := Lib.hid (Below.refl _ _).drew
              refine wp_region_held (S := fun W => Below w5.heap.size w5 W) (by kernel_rfl) ?_
              change wpAnyH _ _ _ _ _ _ _ _ (World.drew _)
              refine wpAnyH_take (i := 0) (v := ?_) rfl (by kernel_rfl) (by decide +kernel) (by decide +kernel) (fun _ _ _ h => h) (Or.inl ⟨by rfl, ?_⟩) HS0.out ?_
              rotate_left
              · intro w' _; first | (go_simp; done) | (go_simp; with_reducible rfl)
              refine wpAnyH_take (i := 1) (v := ?_) rfl (by kernel_rfl) (by decide +kernel) (by decide +kernel) (fun _ _ _ h => h) (Or.inl ⟨by rfl, ?_⟩) HS0.out ?_
              rotate_left
              · intro w' _; first | (go_simp; done) | (go_simp; with_reducible rfl)
              refine wpAnyH_take (i := 2) (v := ?_) rfl (by kernel_rfl) (by decide +kernel) (by decide +kernel) (fun _ _ _ h => h) (Or.inl ⟨by rfl, ?_⟩) HS0.out ?_
              rotate_left
              · intro w' _; first | (go_simp; done) | (go_simp; with_reducible rfl)
              refine wpAnyH_take (i := 3) (v := ?_) rfl (by kernel_rfl) (by decide +kernel) (by decide +kernel) (fun _ _ _ h => h) (Or.inl ⟨by rfl, ?_⟩) HS0.out ?_
              rotate_left
              · intro w' hS; have q1 := (hS.cell (p := ⟨b', off + k, none⟩) hb5).trans q0; first | (go_simp; done) | (go_simp; with_reducible rfl)
              refine wpAnyH_take (i := 4) (v := ?_) rfl (by kernel_rfl) (by decide +kernel) (by decide +kernel) (fun _ _ _ h => h) (Or.inl ⟨by rfl, ?_⟩) HS0.out ?_
              rotate_left
              · intro w' _; first | (go_simp; done) | (go_simp; with_reducible rfl)
              refine wpAnyH_take (i := 5) (v := ?_) rfl (by kernel_rfl) (by decide +kernel) (by decide +kernel) (fun _ _ _ h => h) (Or.inl ⟨by rfl, ?_⟩) HS0.out ?_
              rotate_left
              · intro w' _; first | (go_simp; done) | (go_simp; with_reducible rfl)
              refine wpAnyH_take (i := 6) (v := ?_) rfl (by kernel_rfl) (by decide +kernel) (by decide +kernel) (fun _ _ _ h => h) (Or.inl ⟨by rfl, ?_⟩) HS0.out ?_
              rotate_left
              · intro w' hS; have q1 := (hS.cell (p := ⟨bx, ox + j, none⟩) hbx5).trans r0; first | (go_simp; done) | (go_simp; with_reducible rfl)
              refine wpAnyH_take (i := 7) (v := ?_) rfl (by kernel_rfl) (by decide +kernel) (by decide +kernel) (fun _ _ _ h => h) (Or.inl ⟨by rfl, ?_⟩) HS0.out ?_
              rotate_left
              · intro w' _; first | (go_simp; done) | (go_simp; with_reducible rfl)
              refine wpAnyH_take (i := 8) (v := ?_) rfl (by kernel_rfl) (by decide +kernel) (by decide +kernel) (fun _ _ _ h => h) (Or.inl ⟨by rfl, ?_⟩) HS0.out ?_
              rotate_left
              · intro w' _; first | (go_simp; done) | (go_simp; with_reducible rfl)
              refine wpAnyH_take (i := 9) (v := ?_) rfl (by kernel_rfl) (by decide +kernel) (by decide +kernel) (fun _ _ _ h => h) (Or.inl ⟨by rfl, ?_⟩) HS0.out ?_
              rotate_left
              · intro w' _; first | (go_simp; done) | (go_simp; with_reducible rfl)
              refine wpAnyH_take (i := 10) (v := ?_) rfl (by kernel_rfl) (by decide +kernel) (by decide +kernel) (fun _ _ _ h => h) (Or.inl ⟨by rfl, ?_⟩) HS0.out ?_
              rotate_left
              · intro w' hS; have q1 := (hS.cell (p := ⟨gr + 1, t, none⟩) hgf5).trans f0; first | (go_simp; done) | (go_simp; with_reducible rfl)
              refine wpAnyH_take (i := 11) (v := ?_) rfl (by kernel_rfl) (by decide +kernel) (by decide +kernel) (fun _ _ _ h => h) (Or.inl ⟨by rfl, ?_⟩) HS0.out ?_
              rotate_left
              · intro w' _; first | (go_simp; done) | (go_simp; with_reducible rfl)
              refine wpAnyH_take (i := 12) (v := ?_) rfl (by kernel_rfl) (by decide +kernel) (by decide +kernel) (fun _ _ _ h => h) (Or.inl ⟨by rfl, ?_⟩) HS0.out ?_
              rotate_left
              · intro w' _; first | (go_simp; done) | (go_simp; with_reducible rfl)
              refine wpAnyH_take (i := 13) (v := ?_) rfl (by kernel_rfl) (by decide +kernel) (by decide +kernel) (fun _ _ _ h => h) (Or.inl ⟨by rfl, ?_⟩) HS0.out ?_
              rotate_left
              · intro w' _; first | (go_simp; done) | (go_simp; with_reducible rfl)
              refine wpAnyH_take (i := 14) (v := ?_) rfl (by kernel_rfl) (by decide +kernel) (by decide +kernel) (fun _ _ _ h => h) (Or.inl ⟨by rfl, ?_⟩) HS0.out ?_
              rotate_left
              · intro w' hS; have q1 := (hS.cell (p := ⟨gr + 1, t, none⟩) hgf5).trans f0; first | (go_simp; done) | (go_simp; with_reducible rfl)
              refine wpAnyH_take (i := 15) (v := ?_) rfl (by kernel_rfl) (by decide +kernel) (by decide +kernel) (fun _ _ _ h => h) (Or.inl ⟨by rfl, ?_⟩) HS0.out ?_
              rotate_left
              · intro w' _; first | (go_simp; done) | (go_simp; with_reducible rfl)
              refine wpAnyH_take (i := 16) (v := ?_) rfl (by kernel_rfl) (by decide +kernel) (by decide +kernel) (fun _ _ _ h => h) (Or.inl ⟨by rfl, ?_⟩) HS0.out ?_
              rotate_left
              · intro w' _; first | (go_simp; done) | (go_simp; with_reducible rfl)
              refine wpAnyH_take (i := 17) (v := ?_) rfl (by kernel_rfl) (by decide +kernel) (by decide +kernel) (fun _ _ _ h => h) (Or.inl ⟨by rfl, ?_⟩) HS0.out ?_
              rotate_left
              · intro w' _; first | (go_simp; done) | (go_simp; with_reducible rfl)
              refine wpAnyH_take (i := 18) (v := ?_) rfl (by kernel_rfl) (by decide +kernel) (by decide +kernel) (fun _ _ _ h => h) (Or.inl ⟨by rfl, ?_⟩) HS0.out ?_
              rotate_left
              · intro w' _; first | (go_simp; done) | (go_simp; with_reducible rfl)
              refine wpAnyH_take (i := 19) (v := ?_) rfl (by kernel_rfl) (by decide +kernel) (by decide +kernel) (fun _ _ _ h => h) (Or.inl ⟨by rfl, ?_⟩) HS0.out ?_
              rotate_left
              · intro w' hS; have q1 := (hS.cell (p := ⟨b', off + k, none⟩) hb5).trans q0; first | (go_simp; done) | (go_simp; with_reducible rfl)
              refine wpAnyH_take (i := 20) (v := ?_) rfl (by kernel_rfl) (by decide +kernel) (by decide +kernel) (fun _ _ _ h => h) (Or.inl ⟨by rfl, ?_⟩) HS0.out ?_
              rotate_left
              · intro w' _; first | (go_simp; done) | (go_simp; with_reducible rfl)
              refine wpAnyH_take (i := 21) (v := ?_) rfl (by kernel_rfl) (by decide +kernel) (by decide +kernel) (fun _ _ _ h => h) (Or.inl ⟨by rfl, ?_⟩) HS0.out ?_
              rotate_left
              · intro w' _; first | (go_simp; done) | (go_simp; with_reducible rfl)
              refine wpAnyH_take (i := 22) (v := ?_) rfl (by kernel_rfl) (by decide +kernel) (by decide +kernel) (fun _ _ _ h => h) (Or.inl ⟨by rfl, ?_⟩) HS0.out ?_
              rotate_left
              · intro w' hS; have q1 := (hS.cell (p := ⟨bx, ox + j, none⟩) hbx5).trans r0; first | (go_simp; done) | (go_simp; with_reducible rfl)
              refine wpAnyH_take (i := 23) (v := ?_) rfl (by kernel_rfl) (by decide +kernel) (by decide +kernel) (fun _ _ _ h => h) (Or.inl ⟨by rfl, ?_⟩) HS0.out ?_
              rotate_left
              · intro w' _; first | (go_simp; done) | (go_simp; with_reducible rfl)
              refine wpAnyH_take (i := 24) (v := ?_) rfl (by kernel_rfl) (by decide +kernel) (by decide +kernel) (fun _ _ _ h => h) (Or.inl ⟨by rfl, ?_⟩) HS0.out ?_
              rotate_left
              · intro w' hS; obtain ⟨q0, q1, q2, q3, q4, q5, q6⟩ := bt_cells (rangeAt_below hrb hbz5 hS); first | (go_simp; done) | (go_simp; with_reducible rfl)
              refine wpAnyH_take (i := 27) (v := ?_) rfl (by kernel_rfl) (by decide +kernel) (by decide +kernel) (fun _ _ _ h => h) (Or.inl ⟨by rfl, ?_⟩) HS0.out ?_
              rotate_left
              · intro w' _; first | (go_simp; done) | (go_simp; with_reducible rfl)
              refine wpAnyH_take (i := 28) (v := ?_) rfl (by kernel_rfl) (by decide +kernel) (by decide +kernel) (fun _ _ _ h => h) (Or.inl ⟨by rfl, ?_⟩) HS0.out ?_
              rotate_left
              · intro w' _; first | (go_simp; done) | (go_simp; with_reducible rfl)
              clear hrb q0 r0 f0
              refine wpAnyH_all (rs := [25, 30]) (by decide +kernel) (by simp) ?_
              intro i0 hi0
              simp only [List.mem_cons, List.not_mem_nil, or_false] at hi0
              rcases hi0 with rfl | rfl
              case' inl =>
                refine wpOp_go rfl rfl (fun K hK => ?_)
                go_simp
                refine (HHB.out _).mono ?_
                rintro e w7 ⟨rfl, hb7⟩
                have hB1 := HS0.out.trans (hb7.mono HS0.out.size)
                refine hK _ _ ⟨hB1, ?_⟩
                clear hK K
                refine wpAnyH_take (i := 26) (v := ?_) rfl (by kernel_rfl) (by decide +kernel) (by decide +kernel) (fun _ _ _ h => h) (Or.inl ⟨by rfl, ?_⟩) hB1 ?_
                rotate_left
                · intro w' _; first | (go_simp; done) | (go_simp; with_reducible rfl)
                refine wpAnyH_take (i := 29) (v := ?_) rfl (by kernel_rfl) (by decide +kernel) (by decide +kernel) (fun _ _ _ h => h) (Or.inl ⟨by rfl, ?_⟩) hB1 ?_
                rotate_left
                · intro w' _; first | (go_simp; done) | (go_simp; with_reducible rfl)
                refine wpAnyH_all (rs := [30]) (by decide +kernel) (by simp) ?_
                intro i0 hi0
                obtain rfl := List.mem_singleton.1 hi0
                refine wpOp_go rfl rfl (fun K hK => ?_)
                have bX := Blk.new w7 66 z4
                have hB2 := hB1.alloc hB1.size (.cells z4 66)
                have bX1 : Blk ((w7.alloc (.cells z4 66)).setRow w7.heap.size (rnA ⟨q, fk, fk + LE, cb⟩)) w7.heap.size 66 (rnA ⟨q, fk, fk + LE, cb⟩) := setRow_same bX
                have hB3 := hB2.trans ((Only.setRow w7.heap.size (w7.alloc (.cells z4 66)) (rnA ⟨q, fk, fk + LE, cb⟩)).below hB1.size)
                go_simp
                refine hK _ _ ⟨hB2, ?_⟩
                clear hK K
                refine wpAnyH_all (rs := [31]) (by decide +kernel) (by simp) ?_
                intro i0 hi0
                obtain rfl := List.mem_singleton.1 hi0
                refine wpOp_go rfl rfl (fun K hK => ?_)
                refine wp_store_row 66 (.tmp 17) (.tmp 91) rfl w7.heap.size (rnA ⟨q, fk, fk + LE, cb⟩) rfl rfl 66 z4 bX infoRn rfl (rn_all _) (hK _ _ ⟨hB3, ?_⟩)
                clear hK K
                refine wpAnyH_done (by decide +kernel) ?_ _
                have hle : w5.heap.size ≤ w7.heap.size := hB1.size
                clear bX hB1 hB2 hb7
                generalize (w7.alloc (.cells z4 66)).setRow w7.heap.size (rnA ⟨q, fk, fk + LE, cb⟩) = w8 at bX1 hB3 ⊢
                generalize w7.heap.size = br at bX1 hle ⊢
              case' inr =>
                refine wpOp_go rfl rfl (fun K hK => ?_)
                have bX := Blk.new w5.drew 66 z4
                have hB1 := HS0.out.alloc HS0.out.size (.cells z4 66)
                have HBX := Lib.hid bX
                clear bX
                go_simp
                refine hK _ _ ⟨hB1, ?_⟩
                clear hK K
                refine wpAnyH_all (rs := [25]) (by decide +kernel) (by simp) ?_
                intro i0 hi0
                obtain rfl := List.mem_singleton.1 hi0
                refine wpOp_go rfl rfl (fun K hK => ?_)
                go_simp
                refine (HHB.out _).mono ?_
                rintro e w7 ⟨rfl, hb7⟩
                have hB2 := hB1.trans (hb7.mono hB1.size)
                have bX : Blk w7 w5.heap.size 66 z4 := HBX.out.below hb7 HBX.out.lt
                have bX1 : Blk (w7.setRow w5.heap.size (rnA ⟨q, fk, fk + LE, cb⟩)) w5.heap.size 66 (rnA ⟨q, fk, fk + LE, cb⟩) := setRow_same bX
                have hB3 := hB2.trans ((Only.setRow w5.heap.size w7 (rnA ⟨q, fk, fk + LE, cb⟩)).below (Nat.le_refl _))
                refine hK _ _ ⟨hB2, ?_⟩
                clear hK K
                refine wpAnyH_take (i := 26) (v := ?_) rfl (by kernel_rfl) (by decide +kernel) (by decide +kernel) (fun _ _ _ h => h) (Or.inl ⟨by rfl, ?_⟩) hB2 ?_
                rotate_left
                · intro w' _; first | (go_simp; done) | (go_simp; with_reducible rfl)
                refine wpAnyH_take (i := 29) (v := ?_) rfl (by kernel_rfl) (by decide +kernel) (by decide +kernel) (fun _ _ _ h => h) (Or.inl ⟨by rfl, ?_⟩) hB2 ?_
                rotate_left
                · intro w' _; first | (go_simp; done) | (go_simp; with_reducible rfl)
                refine wpAnyH_all (rs := [31]) (by decide +kernel) (by simp) ?_
                intro i0 hi0
                obtain rfl := List.mem_singleton.1 hi0
                refine wpOp_go rfl rfl (fun K hK => ?_)
                refine wp_store_row 66 (.tmp 17) (.tmp 91) rfl w5.heap.size (rnA ⟨q, fk, fk + LE, cb⟩) rfl rfl 66 z4 bX infoRn rfl (rn_all _) (hK _ _ ⟨hB3, ?_⟩)
                clear hK K
                refine wpAnyH_done (by decide +kernel) ?_ _
                clear bX hB1 hB2 hb7 HBX
                generalize w7.setRow w5.heap.size (rnA ⟨q, fk, fk + LE, cb⟩) = w8 at bX1 hB3 ⊢
                obtain ⟨br, hbr⟩ : ∃ b7, w5.heap.size = b7 := ⟨_, rfl⟩
                rw [hbr] at bX1 ⊢
                have hle : w5.heap.size ≤ br := by omega
                clear hbr
              all_goals
                have hbr8 : br < w8.heap.size := bX1.lt
                have c3 : w8.cell? ⟨br, 3, none⟩ = some (.bool cb) := (bX1.cell 3).trans rfl
                have c2 : w8.cell? ⟨br, 2, none⟩ = some (.int .i64 (fk + LE)) := (bX1.cell 2).trans rfl
                have k2 : IntKind.i64.wrap (fk + LE + cl) = fk + LE + cl := IntWalk.i64_in _ (by omega)
                have HBX1 := Lib.hid bX1
                have HBW8 := Lib.hid hB3
                clear HS0 bX1 hB3
                cases cb
                · have HTT : Hid (fk + (Pl.hc false cl + LE) = fk + LE) := Lib.hid (by show fk + (0 + LE) = fk + LE; omega)
                  obtain ⟨w9, hw9⟩ : ∃ w9, w9 = w8 := ⟨_, rfl⟩
                  subst hw9
                  have HBR9 : Hid (Blk w9 br 66 (rnA ⟨q, fk, fk + LE, false⟩)) := HBX1
                  have HBW9 : Hid (Below w5.heap.size w5 w9) := HBW8
                  have cz9 : w9.cell? ⟨br, 2, none⟩ = some (.int .i64 (fk + LE)) := (HBR9.out.cell 2).trans rfl
                  have hS9 : StJ w9 (gr + 1) b S.1 := HS5.out.below HBW9.out hgf5
                  have ft9 := hS9.frozen t
                  have ct9 := hS9.cell htb
                  have HRO : Hid (RwR (w9.setCell ⟨gr + 1, t, none⟩ (.int .i64 (fk + LE))) w.heap.size (.slice (some ⟨gr, 0, none⟩) b b) F S.2) := Lib.hid ((HR5.out.below HBW9.out).kept (grownBy_set2 w9 (gr + 1) t (.int .i64 (fk + LE))) (.inr (by simp [Value.ownBlock])) (fun j hj => .inr (hF.out j (by rw [← hlen2]; exact hj))))
                  have HS10 : Hid (StJ (w9.setCell ⟨gr + 1, t, none⟩ (.int .i64 (fk + LE))) (gr + 1) b (fun q' => if q' = t then fk + LE else S.1 q')) := Lib.hid (hS9.set (f' := fun q' => if q' = t then fk + LE else S.1 q') t (fk + LE) (fun _ _ => rfl))
                  have HBR10 : Hid (Blk (w9.setCell ⟨gr + 1, t, none⟩ (.int .i64 (fk + LE))) br 66 (rnA ⟨q, fk, fk + LE, false⟩)) := Lib.hid (HBR9.out.far (p := ⟨gr + 1, t, none⟩) (by show br ≠ gr + 1; omega) _)
                  have HW10 : Hid (Below w.heap.size w (w9.setCell ⟨gr + 1, t, none⟩ (.int .i64 (fk + LE)))) := Lib.hid ((HW5.out.trans (HBW9.out.mono HW5.out.size)).setCell (p := ⟨gr + 1, t, none⟩) (by show w.heap.size ≤ gr + 1; omega) _)
                  obtain ⟨w10, hw10⟩ : ∃ w10, w10 = w9.setCell ⟨gr + 1, t, none⟩ (.int .i64 (fk + LE)) := ⟨_, rfl⟩
                  have HWW10 := Lib.hid hw10
                  rw [← hw10] at HRO HS10 HBR10 HW10
                  clear hS9 hw10
                  go_wp2
                  rw [← HWW10.out]
                  clear cz9 ft9 ct9 HWW10
                  have hsz10 : gr < w10.heap.size := (HRO.out.own.lt gr rfl).2
                  have hgf10 : gr + 1 < w10.heap.size := HS10.out.lt
                  have hbr10 : br < w10.heap.size := HBR10.out.lt
                  have hwz10 : w.heap.size ≤ w10.heap.size := HW10.out.size
                  have hc0' := HRO.out.cell (q := t) htb
                  have how10 := HRO.out.own
                  rw [hlen2] at how10
                  have hfz0 := how10.frozenAt t
                  clear how10
                  obtain ⟨fr, hfr⟩ : ∃ fr, F t = fr := ⟨_, rfl⟩
                  rw [hfr] at hc0'
                  have HFR := Lib.hid hfr
                  have z0 : w10.cell? ⟨br, 0, none⟩ = some (.int .i64 q) := (HBR10.out.cell 0).trans rfl
                  have z1 : w10.cell? ⟨br, 1, none⟩ = some (.int .i64 fk) := (HBR10.out.cell 1).trans rfl
                  have z2 : w10.cell? ⟨br, 2, none⟩ = some (.int .i64 (fk + LE)) := (HBR10.out.cell 2).trans rfl
                  have z3 : w10.cell? ⟨br, 3, none⟩ = some (.bool false) := (HBR10.out.cell 3).trans rfl
                  have HWE := Lib.hid ((Below.refl w10.heap.size w10).drew.alloc (Nat.le_refl _) (.cells (rnA ⟨q, fk, fk + LE, false⟩) 66))
                  have HRE := Lib.hid (HRO.out.below HWE.out)
                  have HSE := Lib.hid (HS10.out.below HWE.out hgf10)
                  have HOW : Hid (((w10.drew).alloc (.cells (rnA ⟨q, fk, fk + LE, false⟩) 66)).ownsRow w.heap.size 66 4 fr (S.2.getD t []).length (flt rnL (S.2.getD t []))) := Lib.hid (by rw [← HFR.out]; exact HRE.out.row t (by rw [hlen2]; exact htb))
                  have HNC := Lib.hid (new_cells' (n := w10.heap.size) w10.drew 66 (rnL ⟨q, fk, fk + LE, false⟩) rfl)
                  obtain ⟨zl, hzl⟩ : ∃ z, (S.2.getD t []).length = z := ⟨_, rfl⟩
                  have HZL := Lib.hid hzl
                  rw [hzl] at HOW hll
                  clear hzl hfr
                  have HMK2 : Hid (Pl.mkr l cl fk q false = ⟨q, fk, fk + LE, false⟩) := Lib.hid (by rw [HMK.out, HTT.out])
                  have HN1 : Hid ((fun q' => if q' = t then fk + LE else S.1 q') = (Pl.ar l cl S0 t row (j + 1)).1) := Lib.hid (by rw [HST1.out, HMK2.out])
                  have HN2 : Hid (S.2.set t (S.2.getD t [] ++ [⟨q, fk, fk + LE, false⟩]) = (Pl.ar l cl S0 t row (j + 1)).2) := Lib.hid (by rw [HST1.out, HMK2.out])
                  go_region_law (refine step_append_at rfl (.tmp 109) (.tmp 111) 89 rfl w.heap.size 66 i6 _ 4 32 Try.underlying89 hi6 hz6 hn6 hy6 rfl (by decide) fr zl _ (by simp [Act.eval]) HOW.out ⟨w10.heap.size, 0, none⟩ 1 1 (rnL ⟨q, fk, fk + LE, false⟩) (by simp [Act.eval]) rfl HNC.out (encRn.one _) (by unfold maxLen; omega) (by omega) (by simp; omega) ?_; intro v9 w11 hown9 hgrow9 hloc9; obtain ⟨g9, c9, rfl⟩ := own_pos hown9; obtain ⟨hq9', hf9⟩ := HRE.out.at9 htb (W1 := w11) (by rw [HFR.out]; exact hgrow9); have hq9 : w11.cell? _ = some fr := hq9'.trans (congrArg some HFR.out); clear hq9')
                  all_goals
                    obtain ⟨hR12, hS12, hF12, hB12⟩ := as_append2 HRE.out hlen2 htb HSE.out (by omega) hF.out (u := .slice (some ⟨g9, 0, none⟩) (zl + 1) c9) (x := ⟨q, fk, fk + LE, false⟩) (by rw [HZL.out]; exact hown9) (by rw [HFR.out]; exact hgrow9) (by rw [HFR.out]; exact hloc9)
                    have hBB := HW10.out.trans ((HWE.out.mono hwz10).trans hB12)
                    rw [HN2.out] at hR12
                    rw [HN1.out] at hS12
                    have HF12 := Lib.hid hF12
                    have HR12 := Lib.hid hR12
                    have HS12 := Lib.hid hS12
                    clear hown9 hgrow9 hloc9 hq9 hf9 hB12 hF12 hR12 hS12 z0 z1 z2 z3
                    go_wp2
                    go_roundw
                    case rel => exact ⟨j + 1, _, by omega, by go_num, HR12.out, HS12.out, HF12, hBB⟩
                    case measure => simp [intOf]; omega
                · have HTT : Hid (fk + (Pl.hc true cl + LE) = fk + LE + cl) := Lib.hid (by show fk + (cl + LE) = fk + LE + cl; omega)
                  obtain ⟨w9, hw9⟩ : ∃ w9, w9 = w8.setCell ⟨br, 2, none⟩ (.int .i64 (fk + LE + cl)) := ⟨_, rfl⟩
                  have HW9 := Lib.hid hw9
                  have fz2 := HBX1.out.frozen 2
                  have HBR9 : Hid (Blk w9 br 66 (rnA ⟨q, fk, fk + LE + cl, true⟩)) := Lib.hid (by
                    rw [hw9]
                    have := HBX1.out.set_ 2 (.int .i64 (fk + LE + cl))
                    simpa using this)
                  have HBW9 : Hid (Below w5.heap.size w5 w9) := Lib.hid (by rw [hw9]; exact HBW8.out.setCell (p := ⟨br, 2, none⟩) hle _)
                  have hS8 : StJ w8 (gr + 1) b S.1 := HS5.out.below HBW8.out hgf5
                  have ft8 := hS8.frozen t
                  have ct8 := hS8.cell htb
                  clear hw9 hS8
                  have cz9 : w9.cell? ⟨br, 2, none⟩ = some (.int .i64 (fk + LE + cl)) := (HBR9.out.cell 2).trans rfl
                  have hS9 : StJ w9 (gr + 1) b S.1 := HS5.out.below HBW9.out hgf5
                  have ft9 := hS9.frozen t
                  have ct9 := hS9.cell htb
                  have HRO : Hid (RwR (w9.setCell ⟨gr + 1, t, none⟩ (.int .i64 (fk + LE + cl))) w.heap.size (.slice (some ⟨gr, 0, none⟩) b b) F S.2) := Lib.hid ((HR5.out.below HBW9.out).kept (grownBy_set2 w9 (gr + 1) t (.int .i64 (fk + LE + cl))) (.inr (by simp [Value.ownBlock])) (fun j hj => .inr (hF.out j (by rw [← hlen2]; exact hj))))
                  have HS10 : Hid (StJ (w9.setCell ⟨gr + 1, t, none⟩ (.int .i64 (fk + LE + cl))) (gr + 1) b (fun q' => if q' = t then fk + LE + cl else S.1 q')) := Lib.hid (hS9.set (f' := fun q' => if q' = t then fk + LE + cl else S.1 q') t (fk + LE + cl) (fun _ _ => rfl))
                  have HBR10 : Hid (Blk (w9.setCell ⟨gr + 1, t, none⟩ (.int .i64 (fk + LE + cl))) br 66 (rnA ⟨q, fk, fk + LE + cl, true⟩)) := Lib.hid (HBR9.out.far (p := ⟨gr + 1, t, none⟩) (by show br ≠ gr + 1; omega) _)
                  have HW10 : Hid (Below w.heap.size w (w9.setCell ⟨gr + 1, t, none⟩ (.int .i64 (fk + LE + cl)))) := Lib.hid ((HW5.out.trans (HBW9.out.mono HW5.out.size)).setCell (p := ⟨gr + 1, t, none⟩) (by show w.heap.size ≤ gr + 1; omega) _)
                  obtain ⟨w10, hw10⟩ : ∃ w10, w10 = w9.setCell ⟨gr + 1, t, none⟩ (.int .i64 (fk + LE + cl)) := ⟨_, rfl⟩
                  have HWW10 := Lib.hid hw10
                  rw [← hw10] at HRO HS10 HBR10 HW10
                  clear hS9 hw10
                  go_wp2
                  rw [← HW9.out, ← HWW10.out]
                  clear cz9 ft9 ct9 HWW10 ft8 ct8 fz2 HW9
                  have hsz10 : gr < w10.heap.size := (HRO.out.own.lt gr rfl).2
                  have hgf10 : gr + 1 < w10.heap.size := HS10.out.lt
                  have hbr10 : br < w10.heap.size := HBR10.out.lt
                  have hwz10 : w.heap.size ≤ w10.heap.size := HW10.out.size
                  have hc0' := HRO.out.cell (q := t) htb
                  have how10 := HRO.out.own
                  rw [hlen2] at how10
                  have hfz0 := how10.frozenAt t
                  clear how10
                  obtain ⟨fr, hfr⟩ : ∃ fr, F t = fr := ⟨_, rfl⟩
                  rw [hfr] at hc0'
                  have HFR := Lib.hid hfr
                  have z0 : w10.cell? ⟨br, 0, none⟩ = some (.int .i64 q) := (HBR10.out.cell 0).trans rfl
                  have z1 : w10.cell? ⟨br, 1, none⟩ = some (.int .i64 fk) := (HBR10.out.cell 1).trans rfl
                  have z2 : w10.cell? ⟨br, 2, none⟩ = some (.int .i64 (fk + LE + cl)) := (HBR10.out.cell 2).trans rfl
                  have z3 : w10.cell? ⟨br, 3, none⟩ = some (.bool true) := (HBR10.out.cell 3).trans rfl
                  have HWE := Lib.hid ((Below.refl w10.heap.size w10).drew.alloc (Nat.le_refl _) (.cells (rnA ⟨q, fk, fk + LE + cl, true⟩) 66))
                  have HRE := Lib.hid (HRO.out.below HWE.out)
                  have HSE := Lib.hid (HS10.out.below HWE.out hgf10)
                  have HOW : Hid (((w10.drew).alloc (.cells (rnA ⟨q, fk, fk + LE + cl, true⟩) 66)).ownsRow w.heap.size 66 4 fr (S.2.getD t []).length (flt rnL (S.2.getD t []))) := Lib.hid (by rw [← HFR.out]; exact HRE.out.row t (by rw [hlen2]; exact htb))
                  have HNC := Lib.hid (new_cells' (n := w10.heap.size) w10.drew 66 (rnL ⟨q, fk, fk + LE + cl, true⟩) rfl)
                  obtain ⟨zl, hzl⟩ : ∃ z, (S.2.getD t []).length = z := ⟨_, rfl⟩
                  have HZL := Lib.hid hzl
                  rw [hzl] at HOW hll
                  clear hzl hfr
                  have HMK2 : Hid (Pl.mkr l cl fk q true = ⟨q, fk, fk + LE + cl, true⟩) := Lib.hid (by rw [HMK.out, HTT.out])
                  have HN1 : Hid ((fun q' => if q' = t then fk + LE + cl else S.1 q') = (Pl.ar l cl S0 t row (j + 1)).1) := Lib.hid (by rw [HST1.out, HMK2.out])
                  have HN2 : Hid (S.2.set t (S.2.getD t [] ++ [⟨q, fk, fk + LE + cl, true⟩]) = (Pl.ar l cl S0 t row (j + 1)).2) := Lib.hid (by rw [HST1.out, HMK2.out])
                  go_region_law (refine step_append_at rfl (.tmp 109) (.tmp 111) 89 rfl w.heap.size 66 i6 _ 4 32 Try.underlying89 hi6 hz6 hn6 hy6 rfl (by decide) fr zl _ (by simp [Act.eval]) HOW.out ⟨w10.heap.size, 0, none⟩ 1 1 (rnL ⟨q, fk, fk + LE + cl, true⟩) (by simp [Act.eval]) rfl HNC.out (encRn.one _) (by unfold maxLen; omega) (by omega) (by simp; omega) ?_; intro v9 w11 hown9 hgrow9 hloc9; obtain ⟨g9, c9, rfl⟩ := own_pos hown9; obtain ⟨hq9', hf9⟩ := HRE.out.at9 htb (W1 := w11) (by rw [HFR.out]; exact hgrow9); have hq9 : w11.cell? _ = some fr := hq9'.trans (congrArg some HFR.out); clear hq9')
                  all_goals
                    obtain ⟨hR12, hS12, hF12, hB12⟩ := as_append2 HRE.out hlen2 htb HSE.out (by omega) hF.out (u := .slice (some ⟨g9, 0, none⟩) (zl + 1) c9) (x := ⟨q, fk, fk + LE + cl, true⟩) (by rw [HZL.out]; exact hown9) (by rw [HFR.out]; exact hgrow9) (by rw [HFR.out]; exact hloc9)
                    have hBB := HW10.out.trans ((HWE.out.mono hwz10).trans hB12)
                    rw [HN2.out] at hR12
                    rw [HN1.out] at hS12
                    have HF12 := Lib.hid hF12
                    have HR12 := Lib.hid hR12
                    have HS12 := Lib.hid hS12
                    clear hown9 hgrow9 hloc9 hq9 hf9 hB12 hF12 hR12 hS12 z0 z1 z2 z3
                    go_wp2
                    go_roundw
                    case rel => exact ⟨j + 1, _, by omega, by go_num, HR12.out, HS12.out, HF12, hBB⟩
                    case measure => simp [intOf]; omega
            · obtain rfl : U = j := by omega
              have HR' := Lib.hid hR
              have HS' := Lib.hid hS
              clear hR hS
              go_wp2
              go_roundw
              case rel => exact ⟨k + 1, F, by omega, by go_num, by rw [HNEXT.out]; exact HR'.out, by rw [HNEXT.out]; exact HS'.out, hF, hW⟩
              case measure => simp [intOf]; omega
    · obtain rfl : m = k := by omega
      have HR' := Lib.hid hR
      clear hR hS
      go_wp2
      go_ret2
      exact ⟨_, F, rfl, by rw [HV0.out]; exact HR'.out, hW⟩
end Go.Proofs.Ytlfbfdhdkccaeaa
