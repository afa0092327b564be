/- Rest, of the program. -/
import Derived.Test.YtmjnlmmjfbpogaaS1
import Derived.Test.YtmjnlmmjfbpogaaP10
import Derived.Test.YtmjnlmmjfbpogaaM2
namespace Go.Proofs.Ytmjnlmmjfbpogaa
open Go.RowKit Go.Shelf

theorem mt_len540 {l : List Pl.Tm} {tol : Int} (h : l.length ≤ 60) : (Pl.mt l tol).length ≤ 540 := by
  have := mtn_len (tol := tol) h 9
  exact this

theorem or3 (a : Bool) (i j q : Nat) : (a || (decide (i = q) || decide (j = q))) = if q = j then true else (decide (q = i) || a) := by
  by_cases e : q = j
  · rw [if_pos e, decide_eq_true e.symm, Bool.or_true, Bool.or_true]
  · rw [if_neg e, decide_eq_false (p := j = q) (fun h => e h.symm), Bool.or_false, Bool.or_comm, show decide (i = q) = decide (q = i) from decide_eq_decide.2 eq_comm]

set_option maxRecDepth 100000 in
set_option maxHeartbeats 16000000 in
theorem Rest_any (A : Option Addr) (l : List Pl.Tm) (c n : Nat) (hn : l.length = n) (tol : Int) (w : World) (hI : Tms w A l) :
    Calls Try.prog 28 #[.slice A n c, .int .i64 tol] w fun e w' => ∃ v, e = .returned (.tuple #[v, .int .i64 (Pl.ck l tol)]) ∧ w'.ownsRow w.heap.size 3 1 v (Pl.Rs l tol).length (flt irc (Pl.Rs l tol)) ∧ Below w.heap.size w w' := by
  have HC := Lib.hid (Match_any A l c n hn tol w hI)
  obtain ⟨r, hr⟩ : ∃ r, Pl.ck l tol = r := ⟨_, rfl⟩
  by_cases h0 : r = 0
  rotate_left
  · have hrs : Pl.Rs l tol = [] := by unfold Pl.Rs; rw [if_neg (by rw [hr]; exact h0)]
    rw [hrs]
    rw [hr] at HC ⊢
    have hrb : (r != 0) = true := by simp [h0]
    generalize Pl.Mt l tol = M at *
    clear hI hn hr h0 hrs
    go_enter Try.func28, Try.ntmps28
    go_wp2_with fail
    refine HC.out.mono ?_
    rintro e w1 ⟨v1, rfl, hown, hb1⟩
    clear hown HC
    go_wp2
    go_ret2
    exact ⟨_, rfl, World.ownsRow_nil _ _ _ _, hb1⟩
  · subst h0
    obtain ⟨hv, ht⟩ := Pl.ck_ok hr
    have hok : Pl.Ok l := Pl.ok_of hv
    have hl : n ≤ 60 := hn ▸ hok.len
    have hrs : Pl.Rs l tol = Pl.rs n (Pl.mt l tol) := by unfold Pl.Rs; rw [if_pos hr, hn]
    have hmt : Pl.Mt l tol = Pl.mt l tol := if_pos hr
    have hix : ∀ e, e ∈ Pl.mt l tol → e.1 < n ∧ e.2 < n ∧ e.1 ≠ e.2 := fun e he => hn ▸ Pl.mt_idx l tol he
    have hm5 : (Pl.mt l tol).length ≤ 540 := mt_len540 (by omega)
    rw [hrs, hr]
    rw [hmt, hr] at HC
    generalize Pl.mt l tol = M at *
    have HIX := Lib.hid hix
    obtain ⟨m, hm⟩ : ∃ m, M.length = m := ⟨_, rfl⟩
    have HM := Lib.hid hm
    rw [hm] at hm5
    clear hI hn hr hv ht hok hrs hmt hix
    obtain ⟨i1, hi1, hz1, hn1, hy1⟩ := info_parts info4
    obtain ⟨i0, hi, hz0, hz01, hz2⟩ := info_parts info3'
    go_enter Try.func28, Try.ntmps28
    go_wp2_with fail
    refine HC.out.mono ?_
    rintro e w1 ⟨v1, rfl, hown, hB1⟩
    obtain ⟨A1, c1, rfl, hr1, _, _⟩ := rows_of_owns encPr hown
    rw [hm]
    have hmk := run_make w1 76 4 i1 (.bool false) Try.underlying76 hi1 hz1 .i64 .i64 n n (by omega) (by omega) (by rw [hy1]; omega) (by omega)
    rw [Int.toNat_natCast, hn1, Nat.mul_one] at hmk
    have hst := StB.new w1 n
    have hB2 := hB1.alloc hB1.size (.cells (madeCells #[.bool false] n) 4)
    have hw2 := (Below.refl w1.heap.size w1).alloc (Nat.le_refl _) (.cells (madeCells #[.bool false] n) 4)
    change Sem.run _ _ _ = Result.ok _ (w1.alloc (.cells (madeCells #[.bool false] n) 4)) at hmk
    have hg := hB1.size
    generalize w1.alloc (.cells (madeCells #[.bool false] n) 4) = w2 at *
    have HR := Lib.hid (fun h => hr1.open (h0 := h))
    generalize hgE : w1.heap.size = g at *
    have hst0 : StB w2 g n (Pl.hit (M.take 0)) := hst
    clear hi1 hz1 hn1 hy1 hown hr1 HC hst hm
    have HB1 := Lib.hid hB1
    clear hB1 hB2
    go_wp2
    clear hmk
    go_loopw [10, 28] (fun _ i wr => ∃ k : Nat, k ≤ m ∧ i = .int .i64 k ∧ StB wr g n (Pl.hit (M.take k)) ∧ Below g w1 wr) (fun _ i _ => m - (intOf i).toNat)
    case atStart => exact ⟨0, Nat.zero_le _, rfl, hst0, hw2⟩
    case round =>
      clear hst0 hw2
      obtain ⟨k, hk, rfl, hst, hB⟩ := hrel
      obtain ⟨wo, rfl⟩ : ∃ wo, wo = wr := ⟨_, rfl⟩
      by_cases hlt : k < m
      · have hkI : (k : Int) < (m : Int) := by omega
        have hkM : k < M.length := by rw [HM.out]; exact hlt
        obtain ⟨bp, op, rfl, hbp, hcp⟩ := HR.out (by omega)
        have hck := rangeAt_below (hcp k hkM) (by rw [hgE]; exact hbp) (by rw [hgE]; exact hB)
        obtain ⟨hi1, hi2, hi3⟩ := HIX.out _ (List.getElem_mem hkM)
        have HH := Lib.hid (fun i => Pl.hit_take hkM i)
        clear hcp
        generalize M[k] = p at *
        obtain ⟨i, j⟩ := p
        dsimp only at hi1 hi2 hi3 HH
        have hck : wo.rangeAt bp (op + k * 2) (ipc ((i : Int), (j : Int))) := hck
        have hiI : (i : Int) < (n : Int) := by omega
        have hjI : (j : Int) < (n : Int) := by omega
        have bE := Blk.new wo 51 (ipc ((i : Int), (j : Int))).toArray
        have hgs := hst.lt
        have hB1 := hB.alloc (Nat.le_of_lt hgs) (.cells (ipc ((i : Int), (j : Int))).toArray 51)
        have hst1 := hst.alloc (.cells (ipc ((i : Int), (j : Int))).toArray 51)
        have hgl := hst.lt
        go_wp2_with (refine ldm_pr hck rfl _ rfl rfl ?_)
        clear hck hst hB
        have hne : wo.heap.size ≠ g := by omega
        have hgb : ∃ T, T = wo.heap.size := ⟨_, rfl⟩
        obtain ⟨T, hT⟩ := hgb
        rw [← hT] at bE hne ⊢
        clear hT
        obtain ⟨wa, hwa⟩ : ∃ wa, wa = wo.alloc (.cells (ipc ((i : Int), (j : Int))).toArray 51) := ⟨_, rfl⟩
        rw [← hwa] at bE hB1 hst1 ⊢
        clear hwa
        refine wp_region_held (S := fun W => Blk W T 51 (ipc ((i : Int), (j : Int))).toArray) (by kernel_rfl) ?_
        change wpAnyH _ _ _ _ _ _ _ _ (World.drew _)
        have bEd := bE.drew
        have hd := (Below.refl wa.heap.size wa).drew
        have hst2 := hst1.below hd hst1.lt
        have hB2 := hB1.trans (hd.mono (Nat.le_of_lt hst1.lt))
        clear hst1 hB1 bE hd
        generalize wa.drew = wd at *
        refine wpAnyH_take (i := 0) (v := ?_) rfl (by kernel_rfl) (by decide +kernel) (by decide +kernel) (fun _ _ _ h => h) (Or.inl ⟨by rfl, ?_⟩) bEd ?_
        rotate_left
        · intro w' hS; first | (go_simp; done) | (go_simp; with_reducible rfl)
        refine wpAnyH_take (i := 1) (v := ?_) rfl (by kernel_rfl) (by decide +kernel) (by decide +kernel) (fun _ _ _ h => h) (Or.inl ⟨by rfl, ?_⟩) bEd ?_
        rotate_left
        · intro w' hS; first | (go_simp; done) | (go_simp; with_reducible rfl)
        refine wpAnyH_take (i := 2) (v := ?_) rfl (by kernel_rfl) (by decide +kernel) (by decide +kernel) (fun _ _ _ h => h) (Or.inl ⟨by rfl, ?_⟩) bEd ?_
        rotate_left
        · intro w' hS; have q0 := hS.cell 0; first | (go_simp; done) | (go_simp; with_reducible rfl)
        refine wpAnyH_take (i := 3) (v := ?_) rfl (by kernel_rfl) (by decide +kernel) (by decide +kernel) (fun _ _ _ h => h) (Or.inl ⟨by rfl, ?_⟩) bEd ?_
        rotate_left
        · intro w' hS; first | (go_simp; done) | (go_simp; with_reducible rfl)
        refine wpAnyH_take (i := 4) (v := ?_) rfl (by kernel_rfl) (by decide +kernel) (by decide +kernel) (fun _ _ _ h => h) (Or.inl ⟨by rfl, ?_⟩) bEd ?_
        rotate_left
        · intro w' hS; first | (go_simp; done) | (go_simp; with_reducible rfl)
        refine wpAnyH_take (i := 5) (v := ?_) rfl (by kernel_rfl) (by decide +kernel) (by decide +kernel) (fun _ _ _ h => h) (Or.inl ⟨by rfl, ?_⟩) bEd ?_
        rotate_left
        · intro w' hS; have q1 := hS.cell 1; first | (go_simp; done) | (go_simp; with_reducible rfl)
        refine wpAnyH_take (i := 6) (v := ?_) rfl (by kernel_rfl) (by decide +kernel) (by decide +kernel) (fun _ _ _ h => h) (Or.inl ⟨by rfl, ?_⟩) bEd ?_
        rotate_left
        · intro w' hS; first | (go_simp; done) | (go_simp; with_reducible rfl)
        have ci := hst2.cell hi1
        have fi := hst2.frozen i
        have cj := hst2.cell hi2
        have fj := hst2.frozen j
        have hsi := hst2.set (f' := fun q => decide (q = i) || Pl.hit (M.take k) q) i true (fun q _ => by by_cases e : q = i <;> simp [e])
        have cij := hsi.cell hi2
        have fij := hsi.frozen j
        have hsij := (hsi.set (f' := Pl.hit (M.take (k + 1))) j true (fun q _ => (HH.out q).trans (or3 _ i j q)))
        have bE1 := (Only.setCell g wd i (.bool true)).block T hne
        have bEi : Blk (wd.setCell ⟨g, i, none⟩ (.bool true)) T 51 (ipc ((i : Int), (j : Int))).toArray := bE1.trans bEd
        have bEj : Blk ((wd.setCell ⟨g, i, none⟩ (.bool true)).setCell ⟨g, j, none⟩ (.bool true)) T 51 (ipc ((i : Int), (j : Int))).toArray := ((Only.setCell g _ j (.bool true)).block T hne).trans bEi
        have hO := (Only.setCell g wd i (.bool true)).trans (Only.setCell g _ j (.bool true))
        have hB3 := hB2.trans (hO.below (Nat.le_refl _))
        clear hO bE1
        refine wpAnyH_all (rs := [7]) (by decide +kernel) (by simp) ?_
        intro i' hi'
        obtain rfl := List.mem_singleton.1 hi'
        refine wpOp_go rfl rfl (fun K hK => ?_)
        go_simp
        refine hK _ _ ⟨bEi, ?_⟩
        clear hK K hi' ci fi cj fj
        refine wpAnyH_all (rs := [8]) (by decide +kernel) (by simp) ?_
        intro i' hi'
        obtain rfl := List.mem_singleton.1 hi'
        refine wpOp_go rfl rfl (fun K hK => ?_)
        go_simp
        refine hK _ _ ⟨bEi, ?_⟩
        clear hK K hi'
        refine wpAnyH_all (rs := [9]) (by decide +kernel) (by simp) ?_
        intro i' hi'
        obtain rfl := List.mem_singleton.1 hi'
        refine wpOp_go rfl rfl (fun K hK => ?_)
        go_simp
        refine hK _ _ ⟨bEj, ?_⟩
        clear hK K hi' cij fij
        refine wpAnyH_done (by decide +kernel) ?_ _
        go_wp2
        go_roundw
        case rel => exact ⟨k + 1, by omega, by go_num, hsij, hB3⟩
        case measure => simp [intOf]; omega
      · obtain rfl : k = m := by omega
        have hst2 : StB wo g n (Pl.hit M) := by rw [List.take_of_length_le (by rw [HM.out]; exact Nat.le_refl _)] at hst; exact hst
        have hgl := hst2.lt
        have hB := HB1.out.trans (hB.mono hg)
        clear hst hlt hk
        go_wp2
        go_loopw [11, 12, 13, 43] (fun v _ _ i wr => ∃ q : Nat, q ≤ n ∧ i = .int .i64 q ∧ wr.ownsRow wo.heap.size 3 1 v (Pl.rs q M).length (flt irc (Pl.rs q M)) ∧ Below wo.heap.size wo wr) (fun _ _ _ i _ => n - (intOf i).toNat)
        case atStart => exact ⟨0, Nat.zero_le _, rfl, World.ownsRow_nil _ _ _ _, Below.refl _ _⟩
        case round =>
          obtain ⟨q, hq, rfl, hown, hBq⟩ := hrel
          obtain ⟨wp, rfl⟩ : ∃ wp, wp = wr := ⟨_, rfl⟩
          by_cases hlt : q < n
          · have hqI : (q : Int) < (n : Int) := by omega
            have hcq := (hst2.below hBq hgl).cell hlt
            obtain ⟨x, hx⟩ : ∃ x, Pl.hit M q = x := ⟨_, rfl⟩
            rw [hx] at hcq
            have HX := Lib.hid hx
            clear hx
            cases x with
            | true =>
              have HNX := Lib.hid (Pl.rs_no HX.out)
              go_wp2
              go_roundw
              case rel => exact ⟨q + 1, by omega, by go_num, by rw [HNX.out]; exact hown, hBq⟩
              case measure => simp [intOf]; omega
            | false =>
              have HNX := Lib.hid (Pl.rs_yes HX.out)
              have hlr : (Pl.rs q M).length ≤ q := Pl.rs_len
              generalize Pl.rs q M = R at *
              have HOW := Lib.hid (hown.alloc (.cells (irc q).toArray 3))
              go_wp2_with (at_builtin; refine wpList_append_own _ rfl _ _ 41 rfl wo.heap.size 3 i0 _ 1 8 Try.underlying41 hi hz0 hz01 hz2 rfl (by decide) _ _ _ rfl HOW.out ⟨wp.heap.size, 0, none⟩ 1 1 (irc q) rfl rfl (new_cells' _ _ _ rfl) (encIr.one q) (by unfold maxLen; omega) (by omega) (by have := hBq.size; simp; omega) ?_; intro v' w9 hown' hgrow _)
              have hB9 := (hBq.alloc hBq.size (.cells (irc q).toArray 3)).grown hgrow (hBq.alloc hBq.size _).size (fun s e => (hown.lt s e).1)
              go_roundw
              case rel => exact ⟨q + 1, by omega, by go_num, by rw [HNX.out, List.length_append, flt_append, flt_one]; exact hown', hB9⟩
              case measure => simp [intOf]; omega
          · obtain rfl : q = n := by omega
            go_wp2
            go_ret2
            exact ⟨_, rfl, own_mono hown hB.size, hB.trans (hBq.mono hB.size)⟩
end Go.Proofs.Ytmjnlmmjfbpogaa
