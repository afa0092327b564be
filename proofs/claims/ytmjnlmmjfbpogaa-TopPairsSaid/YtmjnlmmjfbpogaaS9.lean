/- IsGuard, of the program. -/
import Derived.Test.YtmjnlmmjfbpogaaS8
namespace Go.Proofs.Ytmjnlmmjfbpogaa
open Go.RowKit Go.Shelf

set_option maxRecDepth 100000 in
set_option maxHeartbeats 16000000 in
theorem IsGuard_any (A : Option Addr) (l : List Pl.Tm) (c n : Nat) (hn : l.length = n) (hnc : n ≤ c) (hcm : c ≤ maxLen) (tol : Int) (AL : Option Addr) (L : List Int) (cl m : Nat) (hm : L.length = m) (hm6 : m ≤ 600) (w : World) (hI : Tms w A l) (hL : Rows iic 1 w AL L) :
    Calls Try.prog 32 #[.slice A n c, .int .i64 tol, .slice AL m cl] w fun e w' => e = .returned (.tuple #[.bool (Pl.igV l tol L), .int .i64 (Pl.igE l tol L)]) ∧ Below w.heap.size w w' := by
  obtain ⟨v, hv⟩ : ∃ v, Pl.ck l tol = v := ⟨_, rfl⟩
  have HC := Lib.hid (checklist_b A l c tol v hv w hI)
  rw [hn] at HC
  have HI := Lib.hid hI
  by_cases h0 : v = 0
  rotate_left
  · have h1 : (v != 0) = true := by simp [h0]
    have e1 : Pl.igV l tol L = false := by unfold Pl.igV; rw [if_neg (by rw [hv]; exact h0)]
    have e2 : Pl.igE l tol L = v := by unfold Pl.igE; rw [if_neg (by rw [hv]; exact h0), hv]
    rw [e1, e2]
    clear h0 hv hI hn hL hm e1 e2
    go_enter Try.func32, Try.ntmps32
    go_wp2_with fail
    refine HC.out.mono ?_
    rintro e w1 ⟨rfl, hb1⟩
    go_wp2
    go_ret2
    exact ⟨rfl, hb1⟩
  · subst h0
    obtain ⟨h1, h2⟩ := Pl.ck_ok hv
    have hok := Pl.ok_of h1
    have hl : n ≤ 60 := hn ▸ hok.len
    have HOK := Lib.hid hok
    have HN := Lib.hid hn
    have HML := Lib.hid hm
    have HL := Lib.hid hL
    have HCG := Lib.hid (fun gb cg u (w' : World) hI hS => isguard_b A l c n hn hok hnc hcm tol h2 gb cg u w' hI hS)
    obtain ⟨g0, hg0⟩ : ∃ g0, Pl.gi n L Pl.noS = g0 := ⟨_, rfl⟩
    have HG : Hid (Pl.gi n (L.drop 0) Pl.noS = g0) := Lib.hid (by rw [List.drop_zero]; exact hg0)
    have HNO : Hid (g0 = none → Pl.igV l tol L = false ∧ Pl.igE l tol L = 2) := Lib.hid (fun h => by unfold Pl.igV Pl.igE; rw [if_pos hv, if_pos hv, hn, hg0, h]; exact ⟨rfl, rfl⟩)
    have HSO : Hid (∀ u, g0 = some u → Pl.igV l tol L = Pl.gd l tol u ∧ Pl.igE l tol L = 0) := Lib.hid (fun u h => by unfold Pl.igV Pl.igE; rw [if_pos hv, if_pos hv, hn, hg0, h]; exact ⟨rfl, rfl⟩)
    generalize Pl.igV l tol L = V at *
    generalize Pl.igE l tol L = E at *
    obtain ⟨i1, hi1, hz1, hn1, hy1⟩ := info_parts info4
    clear hv h1 h2 hI hok hL hn hm hg0
    go_enter Try.func32, Try.ntmps32
    go_wp2_with fail
    refine HC.out.mono ?_
    rintro e w1 ⟨rfl, hB1⟩
    have hmk := run_make w1 76 4 i1 (.bool false) Try.underlying76 hi1 hz1 .i64 .i64 n n (by omega) (by omega) (by rw [hy1]; omega) (by omega)
    rw [Int.toNat_natCast, hn1, Nat.mul_one] at hmk
    have hst := StB.new w1 n
    have hB2 := hB1.alloc hB1.size (.cells (madeCells #[.bool false] n) 4)
    change Sem.run _ _ _ = Result.ok _ (w1.alloc (.cells (madeCells #[.bool false] n) 4)) at hmk
    have hg := hB1.size
    generalize w1.alloc (.cells (madeCells #[.bool false] n) 4) = w2 at *
    generalize w1.heap.size = g at *
    have hst0 : StB w2 g n Pl.noS := hst
    clear hi1 hz1 hn1 hy1 HC hB1 hst
    go_wp2
    clear hmk
    go_loopw [23] (fun i wr => ∃ k : Nat, ∃ u, k ≤ m ∧ i = .int .i64 k ∧ StB wr g n u ∧ Hid (Pl.gi n (L.drop k) u = g0) ∧ Below w.heap.size w wr) (fun i _ => m - (intOf i).toNat)
    case atStart => exact ⟨0, _, Nat.zero_le _, rfl, hst0, HG, hB2⟩
    case round =>
      clear hst0 HG hB2
      obtain ⟨k, u, hk, rfl, hst, hgi, hB⟩ := hrel
      obtain ⟨wo, rfl⟩ : ∃ wo, wo = wr := ⟨_, rfl⟩
      by_cases hlt : k < m
      · have hkI : (k : Int) < (m : Int) := by omega
        have hkL : k < L.length := by rw [HML.out]; exact hlt
        obtain ⟨bl, ol, rfl, hbl, hcl⟩ := HL.out.open (by omega)
        have hck := rangeAt_below (hcl k hkL) hbl hB
        have HST := Lib.hid ((Pl.gi_step hkL u).symm.trans hgi.out)
        clear hcl hgi
        generalize L[k] = x at *
        have q0 : wo.cell? ⟨bl, ol + k, none⟩ = some (.int .i64 x) := by have := hck 0 _ rfl; rwa [Nat.mul_one] at this
        clear hck hkL
        obtain ⟨y, hy⟩ : ∃ y, decide (0 ≤ x ∧ x < (n : Int)) = y := ⟨_, rfl⟩
        have HY := Lib.hid hy
        cases y with
        | false =>
          have HF := Lib.hid (HNO.out (HST.out.symm.trans (if_neg (fun h => of_decide_eq_false hy h.1))))
          clear hy
          go_wp2_with fail
          refine (isindex_b x _ n c (by omega) _ HY.out _).mono ?_
          rintro e w3 ⟨rfl, rfl⟩
          go_wp2
          go_ret2
          exact ⟨by rw [HF.out.1, HF.out.2]; rfl, hB⟩
        | true =>
          obtain ⟨hx0, hx1⟩ := of_decide_eq_true hy
          obtain ⟨i, rfl⟩ : ∃ i : Nat, x = i := ⟨x.toNat, by omega⟩
          have hin : i < n := by omega
          have ci := hst.cell hin
          have fi := hst.frozen i
          obtain ⟨z, hz⟩ : ∃ z, u i = z := ⟨_, rfl⟩
          rw [hz] at ci
          have HZ := Lib.hid hz
          clear hz
          cases z with
          | true =>
            have HF := Lib.hid (HNO.out (HST.out.symm.trans (if_neg (fun h => by have := h.2; rw [Int.toNat_natCast, HZ.out] at this; cases this))))
            clear hy
            go_wp2_with fail
            refine (isindex_b i _ n c (by omega) _ HY.out _).mono ?_
            rintro e w3 ⟨rfl, rfl⟩
            go_wp2
            go_ret2
            exact ⟨by rw [HF.out.1, HF.out.2]; rfl, hB⟩
          | false =>
            have HNX : Hid (Pl.gi n (L.drop (k + 1)) (Pl.see u i) = g0) := Lib.hid (by
              have := HST.out
              rw [if_pos ⟨of_decide_eq_true hy, by rw [Int.toNat_natCast]; exact HZ.out⟩, Int.toNat_natCast] at this
              exact this)
            have hs2 := hst.set (f' := Pl.see u i) i true (fun q _ => by unfold Pl.see; by_cases e : q = i <;> simp [e])
            have hB2 := hB.trans ((Only.setCell g wo i (.bool true)).below hg)
            clear hy hst hB HST
            go_wp2_with fail
            refine (isindex_b i _ n c (by omega) _ HY.out _).mono ?_
            rintro e w3 ⟨rfl, rfl⟩
            go_wp2
            go_roundw
            case rel => exact ⟨k + 1, _, by omega, by go_num, hs2, HNX, hB2⟩
            case measure => simp [intOf]; omega
      · obtain rfl : k = m := by omega
        have HGU := Lib.hid (HSO.out u ((Pl.gi_end (by rw [HML.out]; exact Nat.le_refl _) u).symm.trans hgi.out).symm)
        clear hgi hlt hk
        go_wp2_with fail
        refine (HCG.out g n u _ (HI.out.below hB) hst).mono ?_
        rintro e w9 ⟨rfl, hb9⟩
        go_wp2
        go_ret2
        exact ⟨by rw [HGU.out.1, HGU.out.2]; rfl, hB.trans (hb9.mono hB.size)⟩
end Go.Proofs.Ytmjnlmmjfbpogaa
