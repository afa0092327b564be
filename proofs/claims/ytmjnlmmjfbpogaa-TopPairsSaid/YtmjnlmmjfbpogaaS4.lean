/- match, Match, of the document. -/
import Derived.Test.YtmjnlmmjfbpogaaS3
import Derived.Test.YtmjnlmmjfbpogaaS2
import Derived.Deep.LoopGhost
namespace Go.Proofs.Ytmjnlmmjfbpogaa
open Go.RowKit Go.Shelf

theorem StB.grown {W W' : World} {g n : Nat} {f : Nat → Bool} {row : Option Nat} (h : StB W g n f) (hg : W.grownBy W' row) (hne : row ≠ some g) : StB W' g n f := by
  obtain ⟨arr, h1, h2, h3⟩ := h
  exact ⟨arr, h1.grown hg hne, h2, h3⟩
theorem grown_only {W W' : World} {g : Nat} (h : Only g W W') : W.grownBy W' (some g) := ⟨h.os, h.tape, h.output, by rw [h.size]; exact Nat.le_refl _, fun k _ hne => h.block k (fun e => hne (by rw [e]))⟩
theorem own_ne {W : World} {B g : Nat} {t : TypeId} {k n : Nat} {v : Value} {xs : List Value} (h : W.ownsRow B t k v n xs) (hg : g < B) : v.ownBlock ≠ some g := fun e => by
  have := (h.lt g e).1
  omega
theorem own_only {W W' : World} {B g : Nat} {t : TypeId} {k n : Nat} {v : Value} {xs : List Value} (h : W.ownsRow B t k v n xs) (hO : Only g W W') (hg : g < B) : W'.ownsRow B t k v n xs :=
  h.kept (grown_only hO) (.inr (own_ne h hg))
theorem Mk_len {l : List Pl.Tm} {tol : Int} {G : Nat → Bool} {k : Nat} {out : List (Nat × Nat)} (h : Pl.Mk l tol G k out) (hl : l.length ≤ 60) (hk : k < 9) : out.length ≤ 540 := by
  have h1 := congrArg List.length h.tot
  rw [List.length_append] at h1
  have h2 := mtn_len (tol := tol) hl (k + 1)
  omega

set_option maxRecDepth 100000 in
set_option maxHeartbeats 16000000 in
theorem rmatch_any (A : Option Addr) (l : List Pl.Tm) (c n : Nat) (hn : l.length = n) (ho : Pl.Ok l) (tol : Int) (w : World) (hI : Tms w A l) :
    Calls Try.prog 59 #[.slice A n c, .int .i64 tol] w fun e w' => ∃ v, e = .returned v ∧ w'.ownsRow w.heap.size 51 2 v (Pl.mt l tol).length (flt prc (Pl.mt l tol)) ∧ Below w.heap.size w w' := by
  have HI := Lib.hid hI
  have HN := Lib.hid hn
  have HOK := Lib.hid ho
  have hl : n ≤ 60 := hn ▸ ho.len
  have HLEN : Hid (∀ G k out, Pl.Mk l tol G k out → k < 9 → out.length ≤ 540) := Lib.hid (fun G k out h hk => Mk_len h ho.len hk)
  have HLE := Lib.hid (fun (gb cg : Nat) (G : Nat → Bool) (side col : Int) (w' : World) hI hG => least_any A l c n hn ho gb cg G side col w' hI hG)
  have HS0 : Hid (Pl.Mo' l tol (fun _ => false) 0 []) := Lib.hid Pl.Mo'.start
  obtain ⟨i1, hi1, hz1, hn1, hy1⟩ := info_parts info4
  have hmk := run_make w 76 4 i1 (.bool false) Try.underlying76 hi1 hz1 .i64 .i64 n n (by omega) (by omega) (by rw [hy1]; omega) (by omega)
  rw [Int.toNat_natCast, hn1, Nat.mul_one] at hmk
  have hst := StB.new w n
  have hB := (Below.refl w.heap.size w).alloc (Nat.le_refl _) (.cells (madeCells #[.bool false] n) 4)
  change Sem.run _ _ _ = Result.ok _ (w.alloc (.cells (madeCells #[.bool false] n) 4)) at hmk
  generalize w.alloc (.cells (madeCells #[.bool false] n) 4) = w1 at *
  obtain ⟨i0, hi, hz0, hz01, hz2⟩ := info_parts info51
  clear hi1 hz1 hn1 hy1 hI hn ho
  go_enter Try.func59, Try.ntmps59
  go_wp2
  clear hmk
  go_loopw [5, 7] (fun v i wr => ∃ k : Nat, ∃ G out, k ≤ 9 ∧ i = .int .i64 ((k : Int) + 1) ∧ StB wr w.heap.size n G ∧ wr.ownsRow (w.heap.size + 1) 51 2 v out.length (flt prc out) ∧ Hid (Pl.Mo' l tol G k out) ∧ Below w.heap.size w wr) (fun _ i _ => 11 - (intOf i).toNat)
  case atStart => exact ⟨0, _, [], Nat.zero_le _, rfl, hst, World.ownsRow_nil _ _ _ _, HS0, hB⟩
  case round =>
    clear hst HS0 hB
    obtain ⟨k, G, out, hk, rfl, hst, hown, hmo, hB⟩ := hrel
    obtain ⟨wo, rfl⟩ : ∃ wo, wo = wr := ⟨_, rfl⟩
    by_cases hlt : k < 9
    · have hle : (k : Int) + 1 ≤ 9 := by omega
      have hgl := hst.lt
      go_wp2_with fail
      refine (HLE.out _ n G 1 ((k : Int) + 1) _ (HI.out.below hB) hst).mono ?_
      rintro e w2 ⟨rfl, hb⟩
      have hst2 := hst.below hb hgl
      have hown2 := own_keep hown hb
      have hB2 := hB.trans (hb.mono hB.size)
      clear hst hown hb hB
      go_wp2_with fail
      refine (HLE.out _ n G 2 ((k : Int) + 1) _ (HI.out.below hB2) hst2).mono ?_
      rintro e w3 ⟨rfl, hb⟩
      have hst3 := hst2.below hb hst2.lt
      have hown3 := own_keep hown2 hb
      have hB3 := hB2.trans (hb.mono hB2.size)
      have HMK : Hid (Pl.Mk l tol G k out) := Lib.hid hmo.out.in
      clear hst2 hown2 hb hB2 hmo hgl
      go_wp2
      go_loopg [5, 8, 9] (Pl.cnt l G k) (fun gk v p q wr => ∃ G out, p = .int .i64 (Pl.hd (Pl.lf l G 1 ((k : Int) + 1))) ∧ q = .int .i64 (Pl.hd (Pl.lf l G 2 ((k : Int) + 1))) ∧ StB wr w.heap.size n G ∧ wr.ownsRow (w.heap.size + 1) 51 2 v out.length (flt prc out) ∧ Hid (Pl.Mk l tol G k out) ∧ Pl.cnt l G k ≤ gk ∧ Below w.heap.size w wr)
      case atStart => exact ⟨G, out, rfl, rfl, hst3, hown3, HMK, Nat.le_refl _, hB3⟩
      case round =>
        clear hst3 hown3 HMK hB3
        obtain ⟨G, out, rfl, rfl, hst, hown, hmk, hcnt, hB⟩ := hrel
        obtain ⟨wo, rfl⟩ : ∃ wo, wo = wr := ⟨_, rfl⟩
        by_cases hp0 : Pl.hd (Pl.lf l G 1 ((k : Int) + 1)) ≥ 0
        rotate_left
        · have HO : Hid (Pl.Mo' l tol G (k + 1) out) := Lib.hid (hmk.out.leave (.inl (Pl.lf_no hp0)))
          go_wp2
          go_roundw
          case rel => exact ⟨k + 1, G, out, by omega, by go_num, hst, hown, HO, hB⟩
          case measure => simp [intOf]; omega
        by_cases hq0 : Pl.hd (Pl.lf l G 2 ((k : Int) + 1)) ≥ 0
        rotate_left
        · have HO : Hid (Pl.Mo' l tol G (k + 1) out) := Lib.hid (hmk.out.leave (.inr (Pl.lf_no hq0)))
          go_wp2
          go_roundw
          case rel => exact ⟨k + 1, G, out, by omega, by go_num, hst, hown, HO, hB⟩
          case measure => simp [intOf]; omega
        obtain ⟨p, P, hP, hpe⟩ := Pl.lf_hd hp0
        obtain ⟨q, Q, hQ, hqe⟩ := Pl.lf_hd hq0
        rw [hpe, hqe]
        have hpl := (Pl.lf_in hP).1
        have hql := (Pl.lf_in hQ).1
        have hpn : p < n := by rw [← HN.out]; exact hpl
        have hqn : q < n := by rw [← HN.out]; exact hql
        have hpI : (p : Int) < (n : Int) := by omega
        have hqI : (q : Int) < (n : Int) := by omega
        have hol := HLEN.out _ _ _ hmk.out hlt
        have HP := Lib.hid hP
        have HQ := Lib.hid hQ
        have HMK := hmk
        have HC := Lib.hid hcnt
        clear hp0 hq0 hpe hqe hP hQ hmk hcnt
        obtain ⟨bz, oz, hA, hbz, hcz⟩ := tms_open HI.out (by omega)
        subst hA
        have vp := HOK.out.vt p hpl
        have vq := HOK.out.vt q hql
        obtain ⟨d, hd⟩ : ∃ d, Pl.ap (Pl.at' l p) (Pl.at' l q) = d := ⟨_, rfl⟩
        have HD := Lib.hid (rapart_b (Pl.at' l p) (Pl.at' l q) (vt_wrap vp vq) (vt_wrap vq vp) d hd)
        have HDD := Lib.hid hd
        have yp0 := fun e : Ext wo => e.cell (tms_cells hbz hcz hB hpl).1
        have yp1 := fun e : Ext wo => e.cell (tms_cells hbz hcz hB hpl).2.1
        have yp2 := fun e : Ext wo => e.cell (tms_cells hbz hcz hB hpl).2.2.1
        have yp3 := fun e : Ext wo => e.cell (tms_cells hbz hcz hB hpl).2.2.2
        have yq0 := fun e : Ext wo => e.cell (tms_cells hbz hcz hB hql).1
        have yq1 := fun e : Ext wo => e.cell (tms_cells hbz hcz hB hql).2.1
        have yq2 := fun e : Ext wo => e.cell (tms_cells hbz hcz hB hql).2.2.1
        have yq3 := fun e : Ext wo => e.cell (tms_cells hbz hcz hB hql).2.2.2
        have HCZ := Lib.hid hcz
        have hgl := hst.lt
        clear vp vq hd hcz
        go_wp2
        refine wp_region_ext (by kernel_rfl) (by kernel_rfl) ?_
        repeat (go_big_quiet_step ((go_at_call 56; refine calls_ext (HD.out _))))
        refine wpQuiet_nil ?_
        rintro _ ⟨s, rfl⟩
        have hB4 := hB.trans (s.h.mono hB.size)
        have hst4 := hst.below s.h hgl
        have hown4 := own_keep hown s.h
        clear yp0 yp1 yp2 yp3 yq0 yq1 yq2 yq3 hB hst hown hgl HD
        generalize s.w = w4 at *
        clear s
        by_cases hdt : d ≤ tol
        · have HNX : Hid (Pl.Mk l tol (Pl.gn (Pl.gn G p) q) k (out ++ [(p, q)])) := Lib.hid (HMK.out.pair HP.out HQ.out (by rw [HDD.out]; exact hdt))
          have HCN : Hid (Pl.cnt l (Pl.gn (Pl.gn G p) q) k < Pl.cnt l G k) := Lib.hid (Pl.cnt_pair HP.out HQ.out)
          have HOW := Lib.hid (hown4.alloc (.cells (prL p q).toArray 51))
          have hgl4 := hst4.lt
          go_wp2_with (first | (at_builtin; refine wpList_append_own _ rfl _ _ 33 rfl (w.heap.size + 1) 51 i0 _ 2 16 Try.underlying33 hi hz0 hz01 hz2 rfl (by decide) _ _ _ rfl HOW.out ⟨w4.heap.size, 0, none⟩ 1 1 (prL p q) rfl rfl (new_cells' _ _ _ rfl) (prL_one p q) (by unfold maxLen; omega) (by omega) (by simp; omega) ?_; intro v' w5 hown' hgrow _; have hst5 := (hst4.alloc (.cells (prL p q).toArray 51)).grown hgrow (own_ne HOW.out (Nat.lt_succ_self _)); have hB5 := (hB4.alloc hB4.size (.cells (prL p q).toArray 51)).grown hgrow (hB4.alloc hB4.size _).size (fun s e => Nat.le_of_succ_le (HOW.out.lt s e).1); have cp := hst5.cell hpn; have fp := hst5.frozen p; have hs1 := hst5.set (f' := Pl.gn G p) p true (fun q _ => by unfold Pl.gn; by_cases e : q = p <;> simp [e]); have cq := hs1.cell hqn; have fq := hs1.frozen q; have hs2 := hs1.set (f' := Pl.gn (Pl.gn G p) q) q true (fun t _ => by unfold Pl.gn; by_cases e : t = q <;> simp [e]); have hO := (Only.setCell w.heap.size w5 p (.bool true)).trans (Only.setCell w.heap.size _ q (.bool true)); have hB6 := hB5.trans (hO.below (Nat.le_refl _)); have hown6 := own_only hown' hO (Nat.lt_succ_self _); have HOW6 := Lib.hid hown6; clear hown' hgrow hst5 hs1 hown6))
          refine (HLE.out _ n _ 1 ((k : Int) + 1) _ (HI.out.below hB6) hs2).mono ?_
          rintro e w7 ⟨rfl, hb⟩
          have hst7 := hs2.below hb hs2.lt
          have hown7 := own_keep HOW6.out hb
          have hB7 := hB6.trans (hb.mono hB6.size)
          clear hs2 HOW6 hb hB6 cp fp cq fq hO hB5 hst4 hown4 hB4 HOW
          go_wp2_with fail
          refine (HLE.out _ n _ 2 ((k : Int) + 1) _ (HI.out.below hB7) hst7).mono ?_
          rintro e w8 ⟨rfl, hb⟩
          have hst8 := hst7.below hb hst7.lt
          have hown8 := own_keep hown7 hb
          have hB8 := hB7.trans (hb.mono hB7.size)
          clear hst7 hown7 hb hB7
          go_wp2
          go_roundg (Pl.cnt l (Pl.gn (Pl.gn G p) q) k)
          case measure => have := HCN.out; have := HC.out; omega
          case rel => exact ⟨_, out ++ [(p, q)], rfl, rfl, hst8, by rw [List.length_append, flt_append, flt_one]; exact hown8, HNX, Nat.le_refl _, hB8⟩
        · have hdf : decide (d ≤ tol) = false := decide_eq_false hdt
          have yp2 := fun e : Ext w4 => e.cell (tms_cells hbz HCZ.out hB4 hpl).2.2.1
          have yq2 := fun e : Ext w4 => e.cell (tms_cells hbz HCZ.out hB4 hql).2.2.1
          have hgl4 := hst4.lt
          go_wp2
          refine wp_region_ext (by kernel_rfl) (by kernel_rfl) ?_
          repeat (go_big_quiet_step (fail))
          refine wpQuiet_nil ?_
          rintro _ ⟨s, rfl⟩
          have hB5 := hB4.trans (s.h.mono hB4.size)
          have hst5 := hst4.below s.h hgl4
          have hown5 := own_keep hown4 s.h
          clear yp2 yq2 hB4 hst4 hown4 hgl4
          generalize s.w = w5 at *
          clear s
          by_cases hlen : (Pl.at' l p).len < (Pl.at' l q).len
          · have HNX : Hid (Pl.Mk l tol (Pl.gn G p) k out) := Lib.hid (HMK.out.left HP.out HQ.out (by rw [HDD.out]; omega) hlen)
            have HCN : Hid (Pl.cnt l (Pl.gn G p) k < Pl.cnt l G k) := Lib.hid (Pl.cnt_left HP.out)
            have cp := hst5.cell hpn
            have fp := hst5.frozen p
            have hs6 := hst5.set (f' := Pl.gn G p) p true (fun q _ => by unfold Pl.gn; by_cases e : q = p <;> simp [e])
            have hO := Only.setCell w.heap.size w5 p (.bool true)
            have hB6 := hB5.trans (hO.below (Nat.le_refl _))
            have hown6 := own_only hown5 hO (Nat.lt_succ_self _)
            clear hst5 hB5 hown5
            go_wp2_with fail
            refine (HLE.out _ n _ 1 ((k : Int) + 1) _ (HI.out.below hB6) hs6).mono ?_
            rintro e w7 ⟨rfl, hb⟩
            have hst7 := hs6.below hb hs6.lt
            have hown7 := own_keep hown6 hb
            have hB7 := hB6.trans (hb.mono hB6.size)
            clear hs6 hown6 hb hB6 cp fp hO
            go_wp2_with fail
            refine (HLE.out _ n _ 2 ((k : Int) + 1) _ (HI.out.below hB7) hst7).mono ?_
            rintro e w8 ⟨rfl, hb⟩
            have hst8 := hst7.below hb hst7.lt
            have hown8 := own_keep hown7 hb
            have hB8 := hB7.trans (hb.mono hB7.size)
            clear hst7 hown7 hb hB7
            go_wp2
            go_roundg (Pl.cnt l (Pl.gn G p) k)
            case measure => have := HCN.out; have := HC.out; omega
            case rel => exact ⟨_, out, rfl, rfl, hst8, hown8, HNX, Nat.le_refl _, hB8⟩
          · have HNX : Hid (Pl.Mk l tol (Pl.gn G q) k out) := Lib.hid (HMK.out.right HP.out HQ.out (by rw [HDD.out]; omega) hlen)
            have HCN : Hid (Pl.cnt l (Pl.gn G q) k < Pl.cnt l G k) := Lib.hid (Pl.cnt_right HQ.out)
            have hlf : decide ((Pl.at' l p).len < (Pl.at' l q).len) = false := decide_eq_false hlen
            have cp := hst5.cell hqn
            have fp := hst5.frozen q
            have hs6 := hst5.set (f' := Pl.gn G q) q true (fun t _ => by unfold Pl.gn; by_cases e : t = q <;> simp [e])
            have hO := Only.setCell w.heap.size w5 q (.bool true)
            have hB6 := hB5.trans (hO.below (Nat.le_refl _))
            have hown6 := own_only hown5 hO (Nat.lt_succ_self _)
            clear hst5 hB5 hown5
            go_wp2_with fail
            refine (HLE.out _ n _ 1 ((k : Int) + 1) _ (HI.out.below hB6) hs6).mono ?_
            rintro e w7 ⟨rfl, hb⟩
            have hst7 := hs6.below hb hs6.lt
            have hown7 := own_keep hown6 hb
            have hB7 := hB6.trans (hb.mono hB6.size)
            clear hs6 hown6 hb hB6 cp fp hO
            go_wp2_with fail
            refine (HLE.out _ n _ 2 ((k : Int) + 1) _ (HI.out.below hB7) hst7).mono ?_
            rintro e w8 ⟨rfl, hb⟩
            have hst8 := hst7.below hb hst7.lt
            have hown8 := own_keep hown7 hb
            have hB8 := hB7.trans (hb.mono hB7.size)
            clear hst7 hown7 hb hB7
            go_wp2
            go_roundg (Pl.cnt l (Pl.gn G q) k)
            case measure => have := HCN.out; have := HC.out; omega
            case rel => exact ⟨_, out, rfl, rfl, hst8, hown8, HNX, Nat.le_refl _, hB8⟩
    · obtain rfl : k = 9 := by omega
      have hout : out = Pl.mt l tol := hmo.out.tot
      go_wp2
      go_ret
      rw [hout] at hown
      exact ⟨_, rfl, own_mono hown (Nat.le_succ _), hB⟩
end Go.Proofs.Ytmjnlmmjfbpogaa
