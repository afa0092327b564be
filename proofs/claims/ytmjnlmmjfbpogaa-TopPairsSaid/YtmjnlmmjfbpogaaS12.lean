/- reachable. -/
import Derived.Test.YtmjnlmmjfbpogaaS11
namespace Go.Proofs.Ytmjnlmmjfbpogaa
open Go.RowKit Go.Shelf Go.Sort Go.Lib

@[go_sem] theorem run_store_fn {P : Program} {w : World} {a : Addr} {m : Mode} (fn : Fn) (first captured : Array Value) : (store a (.func fn first captured) m).run P w = stored P w a (.func fn first captured) m := run_store P w a _ m rfl
/-- the maps of the first k pairs -/
structure Mps (M : List (Nat × Nat)) (k : Nat) (W : World) (mb pb : Nat) (f : Int → Int) (s : List Int) : Prop where
  mi : MapI W mb k f
  sn : Seen W pb k s
  ne : mb ≠ pb
  f : ∀ e, e ∈ M.take k → f (e.2 : Int) = e.1
  s : ∀ x : Int, x ∈ s ↔ ∃ e, e ∈ M.take k ∧ (e.1 : Int) = x

theorem uniq2' {M : List (Nat × Nat)} {x y : Nat × Nat} (hn : (M.map (·.2)).Nodup) (hx : x ∈ M) (hy : y ∈ M) (e : x.2 = y.2) : x = y := Pl.uniq2 hn hx hy e
theorem Seen.kept {W W' : World} {b n : Nat} {s : List Int} {row : Option Nat} (h : Seen W b n s) (hg : W.grownBy W' row) (hne : some b ≠ row) : Seen W' b n s := by
  obtain ⟨D, h1, h2⟩ := h
  exact ⟨D, h1.kept hg hne, h2⟩
theorem Mps.stepf {M : List (Nat × Nat)} {k : Nat} {f : Int → Int} (hn : (M.map (·.2)).Nodup) (hk : k < M.length) (h : ∀ e, e ∈ M.take k → f (e.2 : Int) = e.1) : ∀ e, e ∈ M.take (k + 1) → (if (e.2 : Int) = (M[k].2 : Int) then (M[k].1 : Int) else f e.2) = e.1 := by
  intro e he
  by_cases h2 : (e.2 : Int) = (M[k].2 : Int)
  · rw [if_pos h2, uniq2' hn (List.mem_of_mem_take he) (List.getElem_mem hk) (Int.ofNat_inj.1 h2)]
  · rw [if_neg h2]
    rw [List.take_succ_eq_append_getElem hk, List.mem_append, List.mem_singleton] at he
    rcases he with he | he
    · exact h e he
    · rw [he] at h2; exact absurd rfl h2
theorem Mps.steps {M : List (Nat × Nat)} {k : Nat} {s : List Int} (hk : k < M.length) (h : ∀ x : Int, x ∈ s ↔ ∃ e, e ∈ M.take k ∧ (e.1 : Int) = x) : ∀ x : Int, x ∈ (M[k].1 : Int) :: s ↔ ∃ e, e ∈ M.take (k + 1) ∧ (e.1 : Int) = x := by
  intro x
  rw [List.mem_cons, h x]
  constructor
  · rintro (rfl | ⟨e, h1, h2⟩)
    · exact ⟨M[k], by rw [List.take_succ_eq_append_getElem hk]; exact List.mem_append_right _ (List.mem_singleton.2 rfl), rfl⟩
    · exact ⟨e, by rw [List.take_succ_eq_append_getElem hk]; exact List.mem_append_left _ h1, h2⟩
  · rintro ⟨e, h1, h2⟩
    rw [List.take_succ_eq_append_getElem hk, List.mem_append, List.mem_singleton] at h1
    rcases h1 with h1 | rfl
    · exact .inr ⟨e, h1, h2⟩
    · exact .inl h2.symm

set_option maxRecDepth 100000 in
set_option maxHeartbeats 16000000 in
theorem reach_any (A : Option Addr) (l : List Pl.Tm) (c n : Nat) (hn : l.length = n) (ho : Pl.Ok l) (tol : Int) (ht : 0 ≤ tol ∧ tol ≤ 1000) (Ap : Option Addr) (cp m : Nat) (hm : (Pl.mt l tol).length = m) (w : World) (hI : Tms w A l) (hP : Rows prc 2 w Ap (Pl.mt l tol)) :
    Calls Try.prog 78 #[.slice A n c, .int .i64 tol, .slice Ap m cp] w fun e w' => ∃ rb S, e = .returned (.slice (some ⟨rb, 0, none⟩) n n) ∧ StB w' rb n S ∧ Pl.Rt l tol n S ∧ Below w.heap.size w w' := by
  have hl : n ≤ 60 := hn ▸ ho.len
  have hm5 : m ≤ 540 := hm ▸ mt_len540 (by omega)
  have HI := Lib.hid hI
  have HP := Lib.hid hP
  have HN := Lib.hid hn
  have HM := Lib.hid hm
  have HOK := Lib.hid ho
  have HT := Lib.hid ht
  have HIX : Hid (∀ e, e ∈ Pl.mt l tol → e.1 < n ∧ e.2 < n ∧ e.1 ≠ e.2) := Lib.hid (fun e he => hn ▸ Pl.mt_idx l tol he)
  have hmm := @run_makeMap Try.prog
  clear hI hP hn hm ho ht
  have HND : Hid (((Pl.mt l tol).map (·.2)).Nodup) := Lib.hid (Pl.mt_mch l tol).n2
  generalize hMM : Pl.mt l tol = M at *
  have HMM := Lib.hid hMM
  clear hMM
  have hB0 := (((((Below.refl w.heap.size w).alloc (Nat.le_refl _) (.cells #[.slice A n c] 22)).alloc (by simp) (.cells #[.int .i64 tol] 3)).alloc (by simp; omega) (.map #[] 0)).alloc (by simp; omega) (.map #[] 0)).alloc (by simp; omega) (.cells #[.map (some (w.heap.size + 1 + 1))] 99)
  have k2 := (((((Blk.new w 22 #[.slice A n c]).alloc (.cells #[.int .i64 tol] 3)).alloc (.map #[] 0)).alloc (.map #[] 0)).alloc (.cells #[.map (some (w.heap.size + 1 + 1))] 99))
  have k3 := ((((Blk.new (w.alloc (.cells #[.slice A n c] 22)) 3 #[.int .i64 tol]).alloc (.map #[] 0)).alloc (.map #[] 0)).alloc (.cells #[.map (some (w.heap.size + 1 + 1))] 99))
  have k5 := Blk.new ((((w.alloc (.cells #[.slice A n c] 22)).alloc (.cells #[.int .i64 tol] 3)).alloc (.map #[] 0)).alloc (.map #[] 0)) 99 #[.map (some (w.heap.size + 1 + 1))]
  have m1 := ((MapI.made ((w.alloc (.cells #[.slice A n c] 22)).alloc (.cells #[.int .i64 tol] 3))).below ((Below.refl _ _).alloc (Nat.le_refl _) (.map #[] 0))).below ((Below.refl _ _).alloc (Nat.le_refl _) (.cells #[.map (some (w.heap.size + 1 + 1))] 99))
  have s1 := (Seen.made (((w.alloc (.cells #[.slice A n c] 22)).alloc (.cells #[.int .i64 tol] 3)).alloc (.map #[] 0))).below ((Below.refl _ _).alloc (Nat.le_refl _) (.cells #[.map (some (w.heap.size + 1 + 1))] 99))
  simp only [World.size_alloc] at k3 k5 m1 s1
  have hM0 : Mps M 0 _ (w.heap.size + 1 + 1) (w.heap.size + 1 + 1 + 1) (fun _ => 0) [] := ⟨m1, s1, by omega, fun e he => by simp at he, fun x => by simp⟩
  clear m1 s1
  go_enter Try.func78, Try.ntmps78
  go_wp2
  clear hmm
  go_loopw [19] (fun i wr => ∃ k : Nat, ∃ f s, k ≤ m ∧ i = .int .i64 k ∧ Mps M k wr (w.heap.size + 1 + 1) (w.heap.size + 1 + 1 + 1) f s ∧ Blk wr w.heap.size 22 #[.slice A n c] ∧ Blk wr (w.heap.size + 1) 3 #[.int .i64 tol] ∧ Blk wr (w.heap.size + 1 + 1 + 1 + 1) 99 #[.map (some (w.heap.size + 1 + 1))] ∧ Below w.heap.size w wr) (fun i _ => m - (intOf i).toNat)
  case atStart => exact ⟨0, _, [], Nat.zero_le _, rfl, hM0, k2, k3, k5, hB0⟩
  case round =>
    clear hM0 k2 k3 k5 hB0
    obtain ⟨k, f, s, hk, rfl, hMp, k2, k3, k5, hB⟩ := hrel
    obtain ⟨wo, rfl⟩ : ∃ wo, wo = wr := ⟨_, rfl⟩
    by_cases hlt : k < m
    · have hkI : (k : Int) < (m : Int) := by omega
      have hkM : k < M.length := by rw [HM.out]; exact hlt
      obtain ⟨bp, op, rfl, hbp, hcp⟩ := HP.out.open (by omega)
      have hck := rangeAt_below (hcp k hkM) hbp hB
      obtain ⟨hi1, hi2, hi3⟩ := HIX.out _ (List.getElem_mem hkM)
      have HFF := Lib.hid (Mps.stepf HND.out hkM hMp.f)
      have HSS := Lib.hid (Mps.steps hkM hMp.s)
      clear hcp
      generalize M[k] = p at *
      obtain ⟨i, j⟩ := p
      dsimp only at hi1 hi2 hi3 HFF HSS
      have hck : wo.rangeAt bp (op + k * 2) (ipc ((i : Int), (j : Int))) := hck
      have hb := (Below.refl wo.heap.size wo).alloc (Nat.le_refl _) (.cells (ipc ((i : Int), (j : Int))).toArray 51)
      have bE := Blk.new wo 51 (ipc ((i : Int), (j : Int))).toArray
      have q0 := bE.cell 0
      have q1 := bE.cell 1
      have k5a := k5.below hb k5.lt
      have q5 := k5a.cell 0
      have hwi : (Lit.int .i64 (i : Int)).wf = true := WalkArith.wf_i64 (n := (i : Int)) (by omega)
      have hwj : (Lit.int .i64 (j : Int)).wf = true := WalkArith.wf_i64 (n := (j : Int)) (by omega)
      obtain ⟨wb, hrun1, mi2, hg1⟩ := (hMp.mi.below hb).store (by unfold maxLen; omega) (i : Int) hwj
      have hm1 := hMp.mi.lt
      have hs1 := hMp.sn.lt
      have bE1 := bE.grown hg1 (by intro e; have := Option.some.inj e; omega)
      have q0' := bE1.cell 0
      obtain ⟨wc, hrun2, sn2, hg2⟩ := ((hMp.sn.below hb).kept hg1 (fun e => hMp.ne (by have := Option.some.inj e; omega))).store (by unfold maxLen; omega) hwi
      have mi3 := mi2.kept hg2 (fun e => hMp.ne (by have := Option.some.inj e; omega))
      have k2c := ((k2.below hb k2.lt).grown hg1 (by intro e; have := Option.some.inj e; omega)).grown hg2 (by intro e; have := Option.some.inj e; omega)
      have k3c := ((k3.below hb k3.lt).grown hg1 (by intro e; have := Option.some.inj e; omega)).grown hg2 (by intro e; have := Option.some.inj e; omega)
      have k5c := (k5a.grown hg1 (by intro e; have := Option.some.inj e; omega)).grown hg2 (by intro e; have := Option.some.inj e; omega)
      have hBc := ((hB.trans (hb.mono hB.size)).grown hg1 (by have := hB.size; simp; omega) (fun s e => by have := Option.some.inj e; omega)).grown hg2 (by have := hg1.size; have := hB.size; simp at *; omega) (fun s e => by have := Option.some.inj e; omega)
      have hMp2 : Mps M (k + 1) wc (w.heap.size + 1 + 1) (w.heap.size + 1 + 1 + 1) _ _ := ⟨mi3, sn2, hMp.ne, HFF.out, HSS.out⟩
      clear k2 k3 k5 hB hMp k5a bE bE1 hg1 hg2 mi2 mi3 sn2
      go_wp2_with (refine ldm_pr hck rfl _ rfl rfl ?_)
      go_roundw
      case rel => exact ⟨k + 1, _, _, by omega, by go_num, hMp2, k2c, k3c, k5c, hBc⟩
      case measure => simp [intOf]; omega
    · obtain rfl : k = m := by omega
      obtain ⟨i1, hi1, hz1, hn1, hy1⟩ := info_parts info4
      have hmk := run_make wo 76 4 i1 (.bool false) Try.underlying76 hi1 hz1 .i64 .i64 n n (by omega) (by omega) (by rw [hy1]; omega) (by omega)
      rw [Int.toNat_natCast, hn1, Nat.mul_one] at hmk
      have hst := StB.new wo n
      change Sem.run _ _ _ = Result.ok _ (wo.alloc (.cells (madeCells #[.bool false] n) 4)) at hmk
      have q2 := k2.cell 0
      have hgl := hst.lt
      have hb1 := (Below.refl wo.heap.size wo).alloc (Nat.le_refl _) (.cells (madeCells #[.bool false] n) 4)
      have hb2 := hb1.alloc hb1.size (.cells #[.slice (some ⟨wo.heap.size, 0, none⟩) n n] 76)
      have hb4 := hb2.alloc hb2.size (.cells #[(.func (.func 83) #[] #[.pointer (some ⟨wo.heap.size + 1, 0, none⟩), .pointer (some ⟨w.heap.size, 0, none⟩), .pointer (some ⟨w.heap.size + 1, 0, none⟩), .pointer (some ⟨wo.heap.size + 1 + 1, 0, none⟩), .pointer (some ⟨w.heap.size + 1 + 1 + 1 + 1, 0, none⟩)])] 100)
      have d1 := (Blk.new (wo.alloc (.cells (madeCells #[.bool false] n) 4)) 76 #[.slice (some ⟨wo.heap.size, 0, none⟩) n n]).alloc (.cells #[(.func (.func 83) #[] #[.pointer (some ⟨wo.heap.size + 1, 0, none⟩), .pointer (some ⟨w.heap.size, 0, none⟩), .pointer (some ⟨w.heap.size + 1, 0, none⟩), .pointer (some ⟨wo.heap.size + 1 + 1, 0, none⟩), .pointer (some ⟨w.heap.size + 1 + 1 + 1 + 1, 0, none⟩)])] 100)
      have d4 := Blk.new ((wo.alloc (.cells (madeCells #[.bool false] n) 4)).alloc (.cells #[.slice (some ⟨wo.heap.size, 0, none⟩) n n] 76)) 100 #[(.func (.func 83) #[] #[.pointer (some ⟨wo.heap.size + 1, 0, none⟩), .pointer (some ⟨w.heap.size, 0, none⟩), .pointer (some ⟨w.heap.size + 1, 0, none⟩), .pointer (some ⟨wo.heap.size + 1 + 1, 0, none⟩), .pointer (some ⟨w.heap.size + 1 + 1 + 1 + 1, 0, none⟩)])]
      have hst4 := (hst.alloc (.cells #[.slice (some ⟨wo.heap.size, 0, none⟩) n n] 76)).alloc (.cells #[(.func (.func 83) #[] #[.pointer (some ⟨wo.heap.size + 1, 0, none⟩), .pointer (some ⟨w.heap.size, 0, none⟩), .pointer (some ⟨w.heap.size + 1, 0, none⟩), .pointer (some ⟨wo.heap.size + 1 + 1, 0, none⟩), .pointer (some ⟨w.heap.size + 1 + 1 + 1 + 1, 0, none⟩)])] 100)
      simp only [World.size_alloc] at d1 d4
      have q2w := (k2.below hb4 k2.lt).cell 0
      clear hst hb1 hb2
      go_wp2
      clear hmk hi1 hz1 hn1 hy1 q2 q2w
      obtain ⟨w4, hw4⟩ : ∃ w4, w4 = ((wo.alloc (.cells (madeCells #[.bool false] n) 4)).alloc (.cells #[.slice (some ⟨wo.heap.size, 0, none⟩) n n] 76)).alloc (.cells #[(.func (.func 83) #[] #[.pointer (some ⟨wo.heap.size + 1, 0, none⟩), .pointer (some ⟨w.heap.size, 0, none⟩), .pointer (some ⟨w.heap.size + 1, 0, none⟩), .pointer (some ⟨wo.heap.size + 1 + 1, 0, none⟩), .pointer (some ⟨w.heap.size + 1 + 1 + 1 + 1, 0, none⟩)])] 100) := ⟨_, rfl⟩
      rw [← hw4] at d4 hb4 d1 hst4 ⊢
      clear hw4
      have H0 : Hid (Pl.Rt l tol 0 Pl.noS) := Lib.hid Pl.Rt.start
      have hws := hB.size
      have hrb : wo.heap.size = wo.heap.size := rfl
      have d2 := k2.below hb4 k2.lt
      have d3 := k3.below hb4 k3.lt
      have d5 := k5.below hb4 k5.lt
      have dm := hMp.mi.below hb4
      have ds := hMp.sn.below hb4
      have hml := hMp.mi.lt
      have hsl := hMp.sn.lt
      have h5l := k5.lt
      have hB4 := hB.trans (hb4.mono hB.size)
      have HFM := Lib.hid hMp.f
      have HSM := Lib.hid hMp.s
      clear k2 k3 k5 hMp hB
      have hwl : w4.heap.size ≥ wo.heap.size := hb4.size
      go_loopw [38] (fun i wr => ∃ q : Nat, ∃ S, q ≤ n ∧ i = .int .i64 q ∧ StB wr wo.heap.size n S ∧ Hid (Pl.Rt l tol q S) ∧ Two wo.heap.size wo.heap.size w4 wr) (fun i _ => n - (intOf i).toNat)
      case atStart => exact ⟨0, _, Nat.zero_le _, rfl, hst4, H0, Two.refl _ _ _⟩
      case round =>
        clear hst4 H0
        obtain ⟨q, S, hq, rfl, hst, hrt, hT⟩ := hrel
        obtain ⟨wp, rfl⟩ : ∃ wp, wp = wr := ⟨_, rfl⟩
        by_cases hlt : q < n
        · have hqI : (q : Int) < (n : Int) := by omega
          have hql : q < l.length := by rw [HN.out]; exact hlt
          obtain ⟨bz, oz, hA, hbz, hcz⟩ := tms_open HI.out (by omega)
          subst hA
          have hE4 : Wenv l n c tol w4 bz oz wo.heap.size (w.heap.size + 1 + 1) k (wo.heap.size + 1) w.heap.size (w.heap.size + 1) (wo.heap.size + 1 + 1) (w.heap.size + 1 + 1 + 1 + 1) f :=
            ⟨Nat.lt_of_lt_of_le hbz hB4.size, fun j hj => rangeAt_below (hcz j hj) hbz hB4, dm, d1, d2, d3, d4, d5, by omega, by omega, by omega, by omega, by omega, by omega, by omega⟩
          have hE := hE4.two hT
          have hsn : Seen wp (w.heap.size + 1 + 1 + 1) k s := ds.kept (row := some wo.heap.size) ⟨hT.os, hT.tape, hT.output, hT.size, fun k hk hne => hT.block k hk (fun e => hne (by rw [e])) (fun e => hne (by rw [e]))⟩ (fun e => by have := Option.some.inj e; omega)
          have hck := hE.tm q hql
          rw [Pl.at_getD hql] at hck
          have hb5 := (Below.refl wp.heap.size wp).alloc (Nat.le_refl _) (.cells (tmA (Pl.at' l q)) 24)
          have bT := Blk.new wp 24 (tmA (Pl.at' l q))
          have q1 := bT.cell 1
          have hst5 := hst.below hb5 hst.lt
          have hT5 := hT.trans (Two.of hb5)
          have hE5 := hE.two (Two.of hb5)
          have hsn5 := hsn.below hb5
          have qw := hE5.k4.cell 0
          have eg := eg_walk
          have hwq : (Lit.int .i64 (q : Int)).wf = true := WalkArith.wf_i64 (n := (q : Int)) (by omega)
          obtain ⟨y, hy⟩ : ∃ y, decide ((q : Int) ∈ s) = y := ⟨_, rfl⟩
          have hlk := hsn5.look hwq
          rw [hy] at hlk
          obtain ⟨x, hx⟩ : ∃ x, decide ((Pl.at' l q).side = 1) = x := ⟨_, rfl⟩
          have E1 : ((Pl.at' l q).side == 1) = x := eqB.trans hx
          have HX := Lib.hid hx
          have HY := Lib.hid hy
          clear hx hy hcz hst hT hE hE4 hsn bT
          cases x with
          | false =>
            have HNX : Hid (Pl.Rt l tol (q + 1) S) := Lib.hid (hrt.out.skip (fun h => of_decide_eq_false HX.out h.1))
            go_wp2_with (refine ldm_tm hck rfl _ rfl rfl ?_)
            go_roundw
            case rel => exact ⟨q + 1, S, by omega, by go_num, hst5, HNX, hT5⟩
            case measure => simp [intOf]; omega
          | true =>
            cases y with
            | true =>
              have HNX : Hid (Pl.Rt l tol (q + 1) S) := Lib.hid (hrt.out.skip (fun h => by
                obtain ⟨e, he, heq⟩ := (HSM.out _).1 (of_decide_eq_true HY.out)
                exact h.2 e (by rw [HMM.out]; exact List.mem_of_mem_take he) (Int.ofNat_inj.1 heq)))
              go_wp2_with (refine ldm_tm hck rfl _ rfl rfl ?_)
              go_roundw
              case rel => exact ⟨q + 1, S, by omega, by go_num, hst5, HNX, hT5⟩
              case measure => simp [intOf]; omega
            | false =>
              have hroot : ∀ e, e ∈ Pl.mt l tol → e.1 ≠ q := fun e he heq => of_decide_eq_false HY.out ((HSM.out _).2 ⟨e, by rw [List.take_of_length_le (by rw [HM.out]; exact Nat.le_refl _), ← HMM.out]; exact he, by rw [heq]⟩)
              have HCALL := Lib.hid (walk_any l n c HN.out HOK.out tol HT.out bz oz wo.heap.size (w.heap.size + 1 + 1) k (wo.heap.size + 1) w.heap.size (w.heap.size + 1) (wo.heap.size + 1 + 1) (w.heap.size + 1 + 1 + 1 + 1) f (fun b k' h => HFM.out (b, k') (by rw [List.take_of_length_le (by rw [HM.out]; exact Nat.le_refl _), ← HMM.out]; exact h)) (Pl.Un n S) S q _ (Nat.le_refl _) hlt (of_decide_eq_true HX.out) (Pl.Fp.root hroot) hst5 hE5)
              have HRT := Lib.hid (fun S' (h : Pl.Wk l tol S q S') => hrt.out.walk h)
              clear hroot
              go_wp2_with (first | refine ldm_tm hck rfl _ rfl rfl ?_ | (go_at_fn 83; refine HCALL.out.mono ?_; rintro e w6 ⟨S2, rfl, hst6, hT7, hk2⟩))
              have HNX := Lib.hid (HRT.out S2 hk2)
              go_roundw
              case rel => exact ⟨q + 1, S2, by omega, by go_num, hst6, HNX, hT5.trans hT7⟩
              case measure => simp [intOf]; omega
        · obtain rfl : q = n := by omega
          have d1p : Blk wp (wo.heap.size + 1) 76 #[.slice (some ⟨wo.heap.size, 0, none⟩) q q] := (hT.block (wo.heap.size + 1) d1.lt (by omega) (by omega)).trans d1
          have q1 := d1p.cell 0
          have hBf := hB4.trans (hT.below (B := w.heap.size) (by omega) (by omega) (Nat.le_trans hws hb4.size))
          go_wp2
          go_ret
          exact ⟨_, rfl, S, hst, hrt.out, hBf⟩
end Go.Proofs.Ytmjnlmmjfbpogaa
