/- Check, Worst, of the program and of the document; TempleChecks. -/
import Derived.Test.YtmjnlmmjfbpogaaK2
import Derived.Test.YtmjnlmmjfbpogaaC1
namespace Go.Proofs.Ytmjnlmmjfbpogaa
open Go.RowKit Go.Shelf

theorem ok_vs {l : List Pl.Tm} (h : Pl.vs l = true) : Pl.Ok l := Pl.ok_of h
theorem jd_pok {l : List Pl.Tm} {tol : Int} {ps : List (Int × Int)} (h : Pl.jd l tol ps = 0) : ∀ q (hq : q < ps.length), (0 ≤ ps[q].1 ∧ ps[q].1 < l.length) ∧ 0 ≤ ps[q].2 ∧ ps[q].2 < l.length := by
  unfold Pl.jd at h
  split at h
  · rename_i h1
    exact fun q hq => Pl.pok_true (List.all_eq_true.1 h1 _ (List.getElem_mem hq))
  · cases h

set_option maxRecDepth 100000 in
set_option maxHeartbeats 1000000 in
theorem Check_any (A : Option Addr) (l : List Pl.Tm) (c n : Nat) (hn : l.length = n) (tol : Int) (Ap : Option Addr) (ps : List (Int × Int)) (cp m : Nat) (hm : ps.length = m) (hm70 : m ≤ 70) (w : World) (hI : Tms w A l) (hP : Rows ipc 2 w Ap ps) :
    Calls Try.prog 22 #[.slice A n c, .int .i64 tol, .slice Ap m cp] w fun e w' => e = .returned (.int .i64 (Pl.chk l tol ps)) ∧ Below w.heap.size w w' := by
  subst hn
  obtain ⟨e, he⟩ : ∃ e, Pl.ck l tol = e := ⟨_, rfl⟩
  have HC := Lib.hid (checklist_b A l c tol e he w hI)
  have HI := Lib.hid hI
  have HP := Lib.hid hP
  unfold Pl.chk
  rw [he]
  by_cases h0 : e = 0
  · subst h0
    obtain ⟨h1, h2⟩ := Pl.ck_ok he
    have HK := Lib.hid (fun (w' : World) hI hP => checkpairs_b A l c l.length rfl (ok_vs h1) tol ⟨h2.1, by omega⟩ Ap ps cp m hm hm70 _ rfl w' hI hP)
    rw [if_pos rfl]
    generalize Pl.jd l tol ps = V at *
    clear he h1 h2 hI hP hm
    go_enter Try.func22, Try.ntmps22
    go_wp2_with fail
    refine HC.out.mono ?_
    rintro e w1 ⟨rfl, hb1⟩
    have HI1 := Lib.hid (HI.out.below hb1)
    have HP1 := Lib.hid (HP.out.below hb1)
    go_wp2_with fail
    refine (HK.out _ HI1.out HP1.out).mono ?_
    rintro e w2 ⟨rfl, hb2⟩
    go_wp2
    go_ret
    exact ⟨rfl, hb1.trans (hb2.mono hb1.size)⟩
  · have h1 : (e != 0) = true := by simp [h0]
    rw [if_neg h0]
    clear h0 he hI hP hm
    go_enter Try.func22, Try.ntmps22
    go_wp2_with fail
    refine HC.out.mono ?_
    rintro e w1 ⟨rfl, hb1⟩
    go_wp2
    go_ret
    exact ⟨rfl, hb1⟩

set_option maxRecDepth 100000 in
set_option maxHeartbeats 1000000 in
theorem rCheck_any (A : Option Addr) (l : List Pl.Tm) (c n : Nat) (hn : l.length = n) (tol : Int) (Ap : Option Addr) (ps : List (Int × Int)) (cp m : Nat) (hm : ps.length = m) (hm70 : m ≤ 70) (w : World) (hI : Tms w A l) (hP : Rows ipc 2 w Ap ps) :
    Calls Try.prog 23 #[.slice A n c, .int .i64 tol, .slice Ap m cp] w fun e w' => e = .returned (.int .i64 (Pl.chk l tol ps)) ∧ Below w.heap.size w w' := by
  subst hn
  have HC := Lib.hid (rvalid_any A l c w hI)
  have HI := Lib.hid hI
  have HP := Lib.hid hP
  obtain ⟨x1, hx1⟩ : ∃ x, Pl.vs l = x := ⟨_, rfl⟩
  rw [hx1] at HC
  obtain ⟨x2, hx2⟩ : ∃ x, Pl.inB 0 tol 1000 = x := ⟨_, rfl⟩
  have HT := Lib.hid (rtol_b tol x2 hx2)
  cases x1
  · have he : Pl.ck l tol = 40 := by unfold Pl.ck; rw [hx1]; rfl
    have HV : Hid (Pl.chk l tol ps = 40) := Lib.hid (by unfold Pl.chk; rw [if_neg (by rw [he]; decide), he])
    rw [HV.out]
    clear he hx1 hI hP hm hx2
    go_enter Try.func23, Try.ntmps23
    go_wp2_with fail
    refine HC.out.mono ?_
    rintro e w1 ⟨rfl, hb1⟩
    go_wp2
    go_ret
    exact ⟨rfl, hb1⟩
  cases x2
  · have he : Pl.ck l tol = 2 := by unfold Pl.ck; rw [hx1, hx2]; rfl
    have HV : Hid (Pl.chk l tol ps = 2) := Lib.hid (by unfold Pl.chk; rw [if_neg (by rw [he]; decide), he])
    rw [HV.out]
    clear he hx1 hI hP hm hx2
    go_enter Try.func23, Try.ntmps23
    go_wp2_with fail
    refine HC.out.mono ?_
    rintro e w1 ⟨rfl, hb1⟩
    go_wp2_with fail
    refine (HT.out _).mono ?_
    rintro e w2 ⟨rfl, rfl⟩
    go_wp2
    go_ret
    exact ⟨rfl, hb1⟩
  · have he : Pl.ck l tol = 0 := by unfold Pl.ck; rw [hx1, hx2]; rfl
    have HV : Hid (Pl.chk l tol ps = Pl.jd l tol ps) := Lib.hid (by unfold Pl.chk; rw [if_pos he])
    have h2 := Pl.inB_true.1 hx2
    have HK := Lib.hid (fun (w' : World) hI hP => judged_b A l c l.length rfl (ok_vs hx1) tol ⟨h2.1, by omega⟩ Ap ps cp m hm hm70 _ rfl w' hI hP)
    rw [HV.out]
    generalize Pl.jd l tol ps = V at *
    clear he hx1 hI hP hm hx2 h2
    go_enter Try.func23, Try.ntmps23
    go_wp2_with fail
    refine HC.out.mono ?_
    rintro e w1 ⟨rfl, hb1⟩
    have HI1 := Lib.hid (HI.out.below hb1)
    have HP1 := Lib.hid (HP.out.below hb1)
    go_wp2_with fail
    refine (HT.out _).mono ?_
    rintro e w2 ⟨rfl, rfl⟩
    go_wp2_with fail
    refine (HK.out _ HI1.out HP1.out).mono ?_
    rintro e w3 ⟨rfl, hb3⟩
    go_wp2
    go_ret
    exact ⟨rfl, hb1.trans (hb3.mono hb1.size)⟩


set_option maxRecDepth 100000 in
set_option maxHeartbeats 8000000 in
theorem Worst_any (A : Option Addr) (l : List Pl.Tm) (c n : Nat) (hn : l.length = n) (Ap : Option Addr) (ps : List (Int × Int)) (cp m : Nat) (hm : ps.length = m) (hm70 : m ≤ 70) (w : World) (hI : Tms w A l) (hP : Rows ipc 2 w Ap ps) :
    Calls Try.prog 20 #[.slice A n c, .slice Ap m cp] w fun e w' => e = .returned (.tuple #[.int .i64 (Pl.wsV l ps), .int .i64 (Pl.wsE l ps)]) ∧ Below w.heap.size w w' := by
  subst hn
  have HC := Lib.hid (valid_any A l c w hI)
  have HI := Lib.hid hI
  have HP := Lib.hid hP
  obtain ⟨x1, hx1⟩ : ∃ x, Pl.vs l = x := ⟨_, rfl⟩
  rw [hx1] at HC
  cases x1
  · have he : Pl.wsE l ps = 40 := by unfold Pl.wsE; rw [hx1]; rfl
    have HV : Hid (Pl.wsV l ps = 0) := Lib.hid (by unfold Pl.wsV; rw [if_neg (by rw [he]; decide)])
    rw [HV.out, he]
    clear he hx1 hI hP hm
    go_enter Try.func20, Try.ntmps20
    go_wp2_with fail
    refine HC.out.mono ?_
    rintro e w1 ⟨rfl, hb1⟩
    go_wp2
    go_ret2
    exact ⟨rfl, hb1⟩
  have hok := ok_vs hx1
  have HK := Lib.hid (fun (w' : World) hI hP => checkpairs_b A l c l.length rfl hok 2000 ⟨by omega, by omega⟩ Ap ps cp m hm hm70 _ rfl w' hI hP)
  have hE : Pl.wsE l ps = Pl.jd l 2000 ps := by unfold Pl.wsE; rw [if_pos hx1]
  obtain ⟨e, he⟩ : ∃ e, Pl.jd l 2000 ps = e := ⟨_, rfl⟩
  rw [he] at HK hE
  by_cases h0 : e = 0
  · subst h0
    have HPO := Lib.hid (jd_pok he)
    obtain ⟨R, hR⟩ : ∃ R, Pl.wsf l (ps.map Pl.nat2) 0 = R := ⟨_, rfl⟩
    have HV : Hid (Pl.wsV l ps = R) := Lib.hid (by unfold Pl.wsV; rw [if_pos hE]; exact hR)
    have HR : Hid (Pl.wsf l ((ps.map Pl.nat2).drop 0) 0 = R) := Lib.hid hR
    have HOK := Lib.hid hok
    have HM := Lib.hid hm
    rw [HV.out, hE]
    obtain ⟨n, hn⟩ : ∃ n, l.length = n := ⟨_, rfl⟩
    have HN := Lib.hid hn
    have hl : n ≤ 60 := hn ▸ hok.len
    rw [hn] at HC HK ⊢
    clear hR he hE hx1 hI hP hm hok hn
    go_enter Try.func20, Try.ntmps20
    go_wp2_with fail
    refine HC.out.mono ?_
    rintro e w1 ⟨rfl, hb1⟩
    have HI1 := Lib.hid (HI.out.below hb1)
    have HP1 := Lib.hid (HP.out.below hb1)
    go_wp2_with fail
    refine (HK.out _ HI1.out HP1.out).mono ?_
    rintro e w2 ⟨rfl, hb2⟩
    have hB2 := hb1.trans (hb2.mono hb1.size)
    clear HI1 HP1 hb1 hb2
    go_wp2
    go_loopw [7, 9, 10, 22] (fun vf _ _ i wr => ∃ k : Nat, ∃ q : Int, k ≤ m ∧ i = .int .i64 k ∧ vf = .int .i64 q ∧ (0 ≤ q ∧ q ≤ 2000) ∧ Hid (Pl.wsf l ((ps.map Pl.nat2).drop k) q = R) ∧ Below w.heap.size w wr) (fun _ _ _ i _ => m - (intOf i).toNat)
    case atStart => exact ⟨0, 0, Nat.zero_le _, rfl, rfl, by omega, HR, hB2⟩
    case round =>
      clear HR hB2
      obtain ⟨k, q, hk, rfl, rfl, hq, hw, hB⟩ := hrel
      obtain ⟨w4, rfl⟩ : ∃ w4, w4 = wr := ⟨_, rfl⟩
      by_cases hlt : k < m
      · have hkp : k < ps.length := by rw [HM.out]; exact hlt
        obtain ⟨bp, op, rfl, hbp, hcp⟩ := HP.out.open (by omega)
        have hck := rangeAt_below (hcp k hkp) hbp hB
        obtain ⟨⟨hi1, hi2⟩, hj1, hj2⟩ := HPO.out k hkp
        rw [HN.out] at hi2 hj2
        have hdr : (ps.map Pl.nat2).drop k = Pl.nat2 ps[k] :: (ps.map Pl.nat2).drop (k + 1) := by
          rw [List.drop_eq_getElem_cons (by simpa using hkp), List.getElem_map]
        have HJ2 := Lib.hid hw.out
        rw [hdr] at HJ2
        clear hcp hw hdr
        generalize ps[k] = p at *
        obtain ⟨p1, p2⟩ := p
        dsimp only at hi1 hi2 hj1 hj2
        obtain ⟨i, rfl⟩ : ∃ i : Nat, p1 = i := ⟨p1.toNat, by omega⟩
        obtain ⟨j, rfl⟩ : ∃ j : Nat, p2 = j := ⟨p2.toNat, by omega⟩
        rw [show Pl.nat2 ((i : Int), (j : Int)) = (i, j) from rfl] at HJ2
        have hil : i < l.length := by rw [HN.out]; omega
        have hjl : j < l.length := by rw [HN.out]; omega
        obtain ⟨bz, oz, rfl, hbz, hcz⟩ := tms_open HI.out (by omega)
        have HCI := Lib.hid (fun (W : World) (hB : Below w.heap.size w W) => tms_cells hbz hcz hB hil)
        have HCJ := Lib.hid (fun (W : World) (hB : Below w.heap.size w W) => tms_cells hbz hcz hB hjl)
        have vi := HOK.out.vt i hil
        have vj := HOK.out.vt j hjl
        have HK1 := vt_wrap vi vj
        have HK2 := vt_wrap vj vi
        have hli : 1 ≤ (Pl.at' l i).len ∧ (Pl.at' l i).len ≤ 2000 := ⟨vi.l1, vi.l2⟩
        have hlj : 1 ≤ (Pl.at' l j).len ∧ (Pl.at' l j).len ≤ 2000 := ⟨vj.l1, vj.l2⟩
        have hin : (i : Int) < (n : Int) := by omega
        have hjn : (j : Int) < (n : Int) := by omega
        have HJ3 : Hid (Pl.wsf l ((ps.map Pl.nat2).drop (k + 1)) (max q (max ((Pl.at' l i).len - (Pl.at' l j).len) (-((Pl.at' l i).len - (Pl.at' l j).len)))) = R) := Lib.hid HJ2.out
        clear hil hjl hcz vi vj HJ2
        have bE := Blk.new w4 51 (ipc ((i : Int), (j : Int))).toArray
        have hB1 := hB.alloc hB.size (.cells (ipc ((i : Int), (j : Int))).toArray 51)
        go_wp2_with (refine ldm_pr hck rfl _ rfl rfl ?_)
        generalize w4.alloc (.cells (ipc ((i : Int), (j : Int))).toArray 51) = w5 at *
        have z0 := fun e : Ext w5 => e.cell ((bE.cell 0).trans rfl)
        have z1 := fun e : Ext w5 => e.cell ((bE.cell 1).trans rfl)
        have yi := fun e : Ext w5 => (HCI.out _ (hB1.trans (e.h.mono hB1.size))).2.2.1
        have yj := fun e : Ext w5 => (HCJ.out _ (hB1.trans (e.h.mono hB1.size))).2.2.1
        clear bE hck hB
        refine wp_region_ext (by kernel_rfl) (by kernel_rfl) ?_
        repeat (go_big_quiet_step (fail))
        refine wpQuiet_nil ?_
        rintro _ ⟨s, rfl⟩
        have hB2 := hB1.trans (s.h.mono hB1.size)
        clear z0 z1 yi yj hB1 HK1 HK2
        generalize s.w = w6 at *
        clear s
        obtain ⟨d, hd⟩ : ∃ d, (Pl.at' l i).len - (Pl.at' l j).len = d := ⟨_, rfl⟩
        rw [hd] at HJ3 ⊢
        have hd2 : -2000 ≤ d ∧ d ≤ 2000 := by omega
        have kd : IntKind.i64.wrap (-d) = -d := IntWalk.i64_in _ (by omega)
        clear hd hli hlj
        by_cases h1 : q < d
        · have h2 : ¬ d < -d := by omega
          have HF : Hid (Pl.wsf l ((ps.map Pl.nat2).drop (k + 1)) d = R) := Lib.hid (by have := HJ3.out; rw [show max q (max d (-d)) = d from by omega] at this; exact this)
          go_wp2
          go_roundw
          case rel => exact ⟨k + 1, d, by omega, by go_num, rfl, by omega, HF, hB2⟩
          case measure => simp [intOf]; omega
        by_cases h2 : q < -d
        · have HF : Hid (Pl.wsf l ((ps.map Pl.nat2).drop (k + 1)) (-d) = R) := Lib.hid (by have := HJ3.out; rw [show max q (max d (-d)) = -d from by omega] at this; exact this)
          go_wp2
          go_roundw
          case rel => exact ⟨k + 1, -d, by omega, by go_num, rfl, by omega, HF, hB2⟩
          case measure => simp [intOf]; omega
        · have HF : Hid (Pl.wsf l ((ps.map Pl.nat2).drop (k + 1)) q = R) := Lib.hid (by have := HJ3.out; rw [show max q (max d (-d)) = q from by omega] at this; exact this)
          go_wp2
          go_roundw
          case rel => exact ⟨k + 1, q, by omega, by go_num, rfl, by omega, HF, hB2⟩
          case measure => simp [intOf]; omega
      · obtain rfl : k = m := by omega
        have HF : Hid (R = q) := Lib.hid (by rw [← hw.out, List.drop_of_length_le (by rw [List.length_map, HM.out]; exact Nat.le_refl _)]; rfl)
        go_wp2
        go_ret2
        exact ⟨by rw [HF.out]; rfl, hB⟩
  · have HV : Hid (Pl.wsV l ps = 0) := Lib.hid (by unfold Pl.wsV; rw [if_neg (by rw [hE]; exact h0)])
    rw [HV.out, hE]
    have h1 : (e != 0) = true := by simp [h0]
    clear he hE hx1 hI hP hm hok h0
    go_enter Try.func20, Try.ntmps20
    go_wp2_with fail
    refine HC.out.mono ?_
    rintro e' w1 ⟨rfl, hb1⟩
    have HI1 := Lib.hid (HI.out.below hb1)
    have HP1 := Lib.hid (HP.out.below hb1)
    go_wp2_with fail
    refine (HK.out _ HI1.out HP1.out).mono ?_
    rintro e' w2 ⟨rfl, hb2⟩
    go_wp2
    go_ret2
    exact ⟨rfl, hb1.trans (hb2.mono hb1.size)⟩

set_option maxRecDepth 100000 in
set_option maxHeartbeats 8000000 in
theorem rWorst_any (A : Option Addr) (l : List Pl.Tm) (c n : Nat) (hn : l.length = n) (Ap : Option Addr) (ps : List (Int × Int)) (cp m : Nat) (hm : ps.length = m) (hm70 : m ≤ 70) (w : World) (hI : Tms w A l) (hP : Rows ipc 2 w Ap ps) :
    Calls Try.prog 21 #[.slice A n c, .slice Ap m cp] w fun e w' => e = .returned (.tuple #[.int .i64 (Pl.wsV l ps), .int .i64 (Pl.wsE l ps)]) ∧ Below w.heap.size w w' := by
  subst hn
  have HC := Lib.hid (rvalid_any A l c w hI)
  have HI := Lib.hid hI
  have HP := Lib.hid hP
  obtain ⟨x1, hx1⟩ : ∃ x, Pl.vs l = x := ⟨_, rfl⟩
  rw [hx1] at HC
  cases x1
  · have he : Pl.wsE l ps = 40 := by unfold Pl.wsE; rw [hx1]; rfl
    have HV : Hid (Pl.wsV l ps = 0) := Lib.hid (by unfold Pl.wsV; rw [if_neg (by rw [he]; decide)])
    rw [HV.out, he]
    clear he hx1 hI hP hm
    go_enter Try.func21, Try.ntmps21
    go_wp2_with fail
    refine HC.out.mono ?_
    rintro e w1 ⟨rfl, hb1⟩
    go_wp2
    go_ret2
    exact ⟨rfl, hb1⟩
  have hok := ok_vs hx1
  have HK := Lib.hid (fun (w' : World) hI hP => judged_b A l c l.length rfl hok 2000 ⟨by omega, by omega⟩ Ap ps cp m hm hm70 _ rfl w' hI hP)
  have hE : Pl.wsE l ps = Pl.jd l 2000 ps := by unfold Pl.wsE; rw [if_pos hx1]
  obtain ⟨e, he⟩ : ∃ e, Pl.jd l 2000 ps = e := ⟨_, rfl⟩
  rw [he] at HK hE
  by_cases h0 : e = 0
  · subst h0
    have HPO := Lib.hid (jd_pok he)
    obtain ⟨R, hR⟩ : ∃ R, Pl.wsf l (ps.map Pl.nat2) 0 = R := ⟨_, rfl⟩
    have HV : Hid (Pl.wsV l ps = R) := Lib.hid (by unfold Pl.wsV; rw [if_pos hE]; exact hR)
    have HR : Hid (Pl.wsf l ((ps.map Pl.nat2).drop 0) 0 = R) := Lib.hid hR
    have HOK := Lib.hid hok
    have HM := Lib.hid hm
    rw [HV.out, hE]
    obtain ⟨n, hn⟩ : ∃ n, l.length = n := ⟨_, rfl⟩
    have HN := Lib.hid hn
    have hl : n ≤ 60 := hn ▸ hok.len
    rw [hn] at HC HK ⊢
    clear hR he hE hx1 hI hP hm hok hn
    go_enter Try.func21, Try.ntmps21
    go_wp2_with fail
    refine HC.out.mono ?_
    rintro e w1 ⟨rfl, hb1⟩
    have HI1 := Lib.hid (HI.out.below hb1)
    have HP1 := Lib.hid (HP.out.below hb1)
    go_wp2_with fail
    refine (HK.out _ HI1.out HP1.out).mono ?_
    rintro e w2 ⟨rfl, hb2⟩
    have hB2 := hb1.trans (hb2.mono hb1.size)
    clear HI1 HP1 hb1 hb2
    go_wp2
    go_loopw [7, 8] (fun vf i wr => ∃ k : Nat, ∃ q : Int, k ≤ m ∧ i = .int .i64 k ∧ vf = .int .i64 q ∧ (0 ≤ q ∧ q ≤ 2000) ∧ Hid (Pl.wsf l ((ps.map Pl.nat2).drop k) q = R) ∧ Below w.heap.size w wr) (fun _ i _ => m - (intOf i).toNat)
    case atStart => exact ⟨0, 0, Nat.zero_le _, rfl, rfl, by omega, HR, hB2⟩
    case round =>
      clear HR hB2
      obtain ⟨k, q, hk, rfl, rfl, hq, hw, hB⟩ := hrel
      obtain ⟨w4, rfl⟩ : ∃ w4, w4 = wr := ⟨_, rfl⟩
      by_cases hlt : k < m
      · have hkp : k < ps.length := by rw [HM.out]; exact hlt
        obtain ⟨bp, op, rfl, hbp, hcp⟩ := HP.out.open (by omega)
        have hck := rangeAt_below (hcp k hkp) hbp hB
        obtain ⟨⟨hi1, hi2⟩, hj1, hj2⟩ := HPO.out k hkp
        rw [HN.out] at hi2 hj2
        have hdr : (ps.map Pl.nat2).drop k = Pl.nat2 ps[k] :: (ps.map Pl.nat2).drop (k + 1) := by
          rw [List.drop_eq_getElem_cons (by simpa using hkp), List.getElem_map]
        have HJ2 := Lib.hid hw.out
        rw [hdr] at HJ2
        clear hcp hw hdr
        generalize ps[k] = p at *
        obtain ⟨p1, p2⟩ := p
        dsimp only at hi1 hi2 hj1 hj2
        obtain ⟨i, rfl⟩ : ∃ i : Nat, p1 = i := ⟨p1.toNat, by omega⟩
        obtain ⟨j, rfl⟩ : ∃ j : Nat, p2 = j := ⟨p2.toNat, by omega⟩
        rw [show Pl.nat2 ((i : Int), (j : Int)) = (i, j) from rfl] at HJ2
        have hil : i < l.length := by rw [HN.out]; omega
        have hjl : j < l.length := by rw [HN.out]; omega
        obtain ⟨bz, oz, rfl, hbz, hcz⟩ := tms_open HI.out (by omega)
        have HCI := Lib.hid (fun (W : World) (hB : Below w.heap.size w W) => tms_cells hbz hcz hB hil)
        have HCJ := Lib.hid (fun (W : World) (hB : Below w.heap.size w W) => tms_cells hbz hcz hB hjl)
        have vi := HOK.out.vt i hil
        have vj := HOK.out.vt j hjl
        have HK1 := vt_wrap vi vj
        have HK2 := vt_wrap vj vi
        have hli : 1 ≤ (Pl.at' l i).len ∧ (Pl.at' l i).len ≤ 2000 := ⟨vi.l1, vi.l2⟩
        have hlj : 1 ≤ (Pl.at' l j).len ∧ (Pl.at' l j).len ≤ 2000 := ⟨vj.l1, vj.l2⟩
        have hin : (i : Int) < (n : Int) := by omega
        have hjn : (j : Int) < (n : Int) := by omega
        have HJ3 : Hid (Pl.wsf l ((ps.map Pl.nat2).drop (k + 1)) (max q (max ((Pl.at' l i).len - (Pl.at' l j).len) (-((Pl.at' l i).len - (Pl.at' l j).len)))) = R) := Lib.hid HJ2.out
        clear hil hjl hcz vi vj HJ2
        have z0 := fun e : Ext w4 => e.cell (show w4.cell? ⟨bp, op + k * 2, none⟩ = some (.int .i64 (i : Int)) from hck 0 _ rfl)
        have z1 := fun e : Ext w4 => e.cell (show w4.cell? ⟨bp, op + k * 2 + 1, none⟩ = some (.int .i64 (j : Int)) from hck 1 _ rfl)
        have yi0 := fun e : Ext w4 => (HCI.out _ (hB.trans (e.h.mono hB.size))).1
        have yi1 := fun e : Ext w4 => (HCI.out _ (hB.trans (e.h.mono hB.size))).2.1
        have yi2 := fun e : Ext w4 => (HCI.out _ (hB.trans (e.h.mono hB.size))).2.2.1
        have yi3 := fun e : Ext w4 => (HCI.out _ (hB.trans (e.h.mono hB.size))).2.2.2
        have yj0 := fun e : Ext w4 => (HCJ.out _ (hB.trans (e.h.mono hB.size))).1
        have yj1 := fun e : Ext w4 => (HCJ.out _ (hB.trans (e.h.mono hB.size))).2.1
        have yj2 := fun e : Ext w4 => (HCJ.out _ (hB.trans (e.h.mono hB.size))).2.2.1
        have yj3 := fun e : Ext w4 => (HCJ.out _ (hB.trans (e.h.mono hB.size))).2.2.2
        have hap : max ((Pl.at' l i).len - (Pl.at' l j).len) ((Pl.at' l j).len - (Pl.at' l i).len) = max ((Pl.at' l i).len - (Pl.at' l j).len) (-((Pl.at' l i).len - (Pl.at' l j).len)) := by omega
        obtain ⟨d, hd⟩ : ∃ d, max ((Pl.at' l i).len - (Pl.at' l j).len) (-((Pl.at' l i).len - (Pl.at' l j).len)) = d := ⟨_, rfl⟩
        have HD := Lib.hid (rapart_b (Pl.at' l i) (Pl.at' l j) HK1 HK2 d (hap.trans hd))
        rw [hd] at HJ3
        have hd2 : 0 ≤ d ∧ d ≤ 2000 := by omega
        clear hap hd hli hlj HK1 HK2 hck
        by_cases h1 : q < d
        · have HF : Hid (Pl.wsf l ((ps.map Pl.nat2).drop (k + 1)) d = R) := Lib.hid (by have := HJ3.out; rw [show max q d = d from by omega] at this; exact this)
          go_wp2
          refine wp_region_ext (by kernel_rfl) (by kernel_rfl) ?_
          repeat (go_big_quiet_step ((go_at_call 56; refine calls_ext (HD.out _))))
          refine wpQuiet_nil ?_
          rintro _ ⟨s, rfl⟩
          go_wp2
          go_roundw
          case rel => exact ⟨k + 1, d, by omega, by go_num, by rw [show max q d = d from by omega], by omega, HF, hB.trans (s.h.mono hB.size)⟩
          case measure => simp [intOf]; omega
        · have HF : Hid (Pl.wsf l ((ps.map Pl.nat2).drop (k + 1)) q = R) := Lib.hid (by have := HJ3.out; rw [show max q d = q from by omega] at this; exact this)
          go_wp2
          refine wp_region_ext (by kernel_rfl) (by kernel_rfl) ?_
          repeat (go_big_quiet_step ((go_at_call 56; refine calls_ext (HD.out _))))
          refine wpQuiet_nil ?_
          rintro _ ⟨s, rfl⟩
          go_wp2
          go_roundw
          case rel => exact ⟨k + 1, q, by omega, by go_num, by rw [show max q d = q from by omega], by omega, HF, hB.trans (s.h.mono hB.size)⟩
          case measure => simp [intOf]; omega
      · obtain rfl : k = m := by omega
        have HF : Hid (R = q) := Lib.hid (by rw [← hw.out, List.drop_of_length_le (by rw [List.length_map, HM.out]; exact Nat.le_refl _)]; rfl)
        go_wp2
        go_ret2
        exact ⟨by rw [HF.out]; rfl, hB⟩
  · have HV : Hid (Pl.wsV l ps = 0) := Lib.hid (by unfold Pl.wsV; rw [if_neg (by rw [hE]; exact h0)])
    rw [HV.out, hE]
    have h1 : (e != 0) = true := by simp [h0]
    clear he hE hx1 hI hP hm hok h0
    go_enter Try.func21, Try.ntmps21
    go_wp2_with fail
    refine HC.out.mono ?_
    rintro e' w1 ⟨rfl, hb1⟩
    have HI1 := Lib.hid (HI.out.below hb1)
    have HP1 := Lib.hid (HP.out.below hb1)
    go_wp2_with fail
    refine (HK.out _ HI1.out HP1.out).mono ?_
    rintro e' w2 ⟨rfl, hb2⟩
    go_wp2
    go_ret2
    exact ⟨rfl, hb1.trans (hb2.mono hb1.size)⟩

set_option maxRecDepth 100000 in
set_option maxHeartbeats 4000000 in
theorem law_checks (A : Option Addr) (l : List Pl.Tm) (c : Nat) (tol : Int) (Ap : Option Addr) (ps : List (Int × Int)) (cp : Nat) (w : World) (hI : Tms w A l) (hP : Rows ipc 2 w Ap ps) :
    Calls Try.prog 4 #[.slice A l.length c, .int .i64 tol, .slice Ap ps.length cp] w fun e w' => e = .returned (.bool true) ∧ Below w.heap.size w w' := by
  have HI := Lib.hid hI
  have HP := Lib.hid hP
  have HS := Lib.hid sane_any
  have H1 := Lib.hid (fun (w' : World) m (hm : ps.length = m) (h70 : m ≤ 70) hI hP => Worst_any A l c _ rfl Ap ps cp m hm h70 w' hI hP)
  have H2 := Lib.hid (fun (w' : World) m (hm : ps.length = m) (h70 : m ≤ 70) hI hP => rWorst_any A l c _ rfl Ap ps cp m hm h70 w' hI hP)
  have H3 := Lib.hid (fun (w' : World) m (hm : ps.length = m) (h70 : m ≤ 70) hI hP => Check_any A l c _ rfl tol Ap ps cp m hm h70 w' hI hP)
  have H4 := Lib.hid (fun (w' : World) m (hm : ps.length = m) (h70 : m ≤ 70) hI hP => rCheck_any A l c _ rfl tol Ap ps cp m hm h70 w' hI hP)
  obtain ⟨m, hm⟩ : ∃ m, ps.length = m := ⟨_, rfl⟩
  have HM := Lib.hid hm
  rw [hm]
  generalize Pl.wsV l ps = v1 at *
  generalize Pl.wsE l ps = v2 at *
  generalize Pl.chk l tol ps = v3 at *
  generalize l.length = n at *
  clear hI hP hm
  go_enter Try.func4, Try.ntmps4
  by_cases hw : (70 : Int) < (n : Int)
  · have HW := Lib.hid (wide_b A n c 70 true (by simp [hw]))
    clear hw
    go_wp2_with fail
    refine (HW.out _).mono ?_
    rintro e w1 ⟨rfl, rfl⟩
    go_wp2_with fail
    refine (HS.out _).mono ?_
    rintro e w2 ⟨rfl, hb⟩
    go_wp2
    go_ret
    exact ⟨rfl, hb⟩
  have HW := Lib.hid (wide_b A n c 70 false (by simp [hw]))
  clear hw
  by_cases hw2 : (70 : Int) < (m : Int)
  · go_wp2_with fail
    refine (HW.out _).mono ?_
    rintro e w1 ⟨rfl, rfl⟩
    go_wp2_with fail
    refine (HS.out _).mono ?_
    rintro e w2 ⟨rfl, hb⟩
    go_wp2
    go_ret
    exact ⟨rfl, hb⟩
  · have h70 : m ≤ 70 := by omega
    go_wp2_with fail
    refine (HW.out _).mono ?_
    rintro e w1 ⟨rfl, rfl⟩
    go_wp2_with fail
    refine (H1.out _ _ HM.out h70 HI.out HP.out).mono ?_
    rintro e w1 ⟨rfl, hb1⟩
    have HI1 := Lib.hid (HI.out.below hb1)
    have HP1 := Lib.hid (HP.out.below hb1)
    clear HI HP
    go_wp2_with fail
    refine (H2.out _ _ HM.out h70 HI1.out HP1.out).mono ?_
    rintro e w2 ⟨rfl, hb2⟩
    have hB2 := hb1.trans (hb2.mono hb1.size)
    have HI2 := Lib.hid (HI1.out.below hb2)
    have HP2 := Lib.hid (HP1.out.below hb2)
    clear HI1 HP1 hb1 hb2
    go_wp2_with fail
    refine (H3.out _ _ HM.out h70 HI2.out HP2.out).mono ?_
    rintro e w3 ⟨rfl, hb3⟩
    have hB3 := hB2.trans (hb3.mono hB2.size)
    have HI3 := Lib.hid (HI2.out.below hb3)
    have HP3 := Lib.hid (HP2.out.below hb3)
    clear HI2 HP2 hb3 hB2
    go_wp2_with fail
    refine (H4.out _ _ HM.out h70 HI3.out HP3.out).mono ?_
    rintro e w4 ⟨rfl, hb4⟩
    have hB4 := hB3.trans (hb4.mono hB3.size)
    clear HI3 HP3 hb4 hB3
    go_wp2_with fail
    refine (HS.out _).mono ?_
    rintro e w5 ⟨rfl, hb⟩
    go_wp2
    go_ret
    exact ⟨rfl, hB4.trans (hb.mono hB4.size)⟩
end Go.Proofs.Ytmjnlmmjfbpogaa
