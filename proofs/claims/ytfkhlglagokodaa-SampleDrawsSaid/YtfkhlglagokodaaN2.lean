/- Draw, of the document. -/
import Derived.Test.YtfkhlglagokodaaN1
namespace Go.Proofs.Ytfkhlglagokodaa
open Go.RowKit Go.Shelf

theorem dok_out {x L s : Int} (h : ¬ (1 ≤ x ∧ x ≤ 2147483646 ∧ 1 ≤ L ∧ L ≤ 60 ∧ 0 ≤ s ∧ s ≤ L)) : Pl.De x L s = 2 ∧ Pl.Dl x L s = [] := by
  cases hv : Pl.dok x L s with
  | false => exact Pl.dok_no hv
  | true =>
    obtain ⟨y, l, n, rfl, rfl, rfl, q1, q2, q3, q4, q5, _⟩ := Pl.dok_ok hv
    exact absurd ⟨by omega, by omega, by omega, by omega, by omega, by omega⟩ h

set_option maxRecDepth 100000 in
set_option maxHeartbeats 16000000 in
theorem rDraw_b (x L s : Int) (w : World) :
    Calls Try.prog 39 #[.int .i64 x, .int .i64 L, .int .i64 s] w fun e w' => ∃ A c, e = .returned (.tuple #[.slice A (Pl.Dl x L s).length c, .int .i64 (Pl.De x L s)]) ∧ Rows irc 1 w' A (Pl.Dl x L s) ∧ (Pl.Dl x L s).length ≤ c ∧ Below w.heap.size w w' := by
  by_cases c1 : x < 1
  · obtain ⟨e1, e2⟩ := dok_out (x := x) (L := L) (s := s) (by omega)
    rw [e1, e2]
    clear e1 e2
    go_enter Try.func39, Try.ntmps39
    go_wp2
    go_ret2
    first | exact ⟨none, 0, rfl, Rows.nil _ _, Nat.le_refl _, Below.refl _ _⟩ | exact ⟨none, ⟨0, rfl⟩, Rows.nil _ _, Below.refl _ _⟩
  by_cases c2 : 2147483646 < x
  · obtain ⟨e1, e2⟩ := dok_out (x := x) (L := L) (s := s) (by omega)
    rw [e1, e2]
    clear e1 e2
    go_enter Try.func39, Try.ntmps39
    go_wp2
    go_ret2
    first | exact ⟨none, 0, rfl, Rows.nil _ _, Nat.le_refl _, Below.refl _ _⟩ | exact ⟨none, ⟨0, rfl⟩, Rows.nil _ _, Below.refl _ _⟩
  by_cases c3 : L < 1
  · obtain ⟨e1, e2⟩ := dok_out (x := x) (L := L) (s := s) (by omega)
    rw [e1, e2]
    clear e1 e2
    go_enter Try.func39, Try.ntmps39
    go_wp2
    go_ret2
    first | exact ⟨none, 0, rfl, Rows.nil _ _, Nat.le_refl _, Below.refl _ _⟩ | exact ⟨none, ⟨0, rfl⟩, Rows.nil _ _, Below.refl _ _⟩
  by_cases c4 : 60 < L
  · obtain ⟨e1, e2⟩ := dok_out (x := x) (L := L) (s := s) (by omega)
    rw [e1, e2]
    clear e1 e2
    go_enter Try.func39, Try.ntmps39
    go_wp2
    go_ret2
    first | exact ⟨none, 0, rfl, Rows.nil _ _, Nat.le_refl _, Below.refl _ _⟩ | exact ⟨none, ⟨0, rfl⟩, Rows.nil _ _, Below.refl _ _⟩
  by_cases c5 : s < 0
  · obtain ⟨e1, e2⟩ := dok_out (x := x) (L := L) (s := s) (by omega)
    rw [e1, e2]
    clear e1 e2
    go_enter Try.func39, Try.ntmps39
    go_wp2
    go_ret2
    first | exact ⟨none, 0, rfl, Rows.nil _ _, Nat.le_refl _, Below.refl _ _⟩ | exact ⟨none, ⟨0, rfl⟩, Rows.nil _ _, Below.refl _ _⟩
  by_cases c6 : L < s
  · obtain ⟨e1, e2⟩ := dok_out (x := x) (L := L) (s := s) (by omega)
    rw [e1, e2]
    clear e1 e2
    go_enter Try.func39, Try.ntmps39
    go_wp2
    go_ret2
    first | exact ⟨none, 0, rfl, Rows.nil _ _, Nat.le_refl _, Below.refl _ _⟩ | exact ⟨none, ⟨0, rfl⟩, Rows.nil _ _, Below.refl _ _⟩
  obtain ⟨y, rfl⟩ : ∃ y : Nat, x = y := ⟨x.toNat, by omega⟩
  obtain ⟨l, rfl⟩ : ∃ l : Nat, L = l := ⟨L.toNat, by omega⟩
  obtain ⟨n, rfl⟩ : ∃ n : Nat, s = n := ⟨s.toNat, by omega⟩
  have hl60 : l ≤ 60 := by omega
  have hl1 : 1 ≤ l := by omega
  have hnl : n ≤ l := by omega
  have hy1 : y ≤ 2147483646 := by omega
  have hok : Pl.dok y l n = true := by
    unfold Pl.dok
    rw [Pl.inB_iff.2 ⟨by omega, by omega⟩, Pl.inB_iff.2 ⟨by omega, by omega⟩, Pl.inB_iff.2 ⟨by omega, by omega⟩]
    rfl
  have e1 : Pl.De y l n = 0 := by unfold Pl.De; rw [if_pos hok]
  have e2 : Pl.Dl y l n = Pl.dl y l n := by unfold Pl.Dl; rw [if_pos hok, Int.toNat_natCast, Int.toNat_natCast, Int.toNat_natCast]
  rw [e1, e2]
  clear e1 e2 hok
  obtain ⟨i0, hi0, hz0, hn0, hy0⟩ := info_parts info3f
  obtain ⟨ib, hib, hzb, hnb, hyb⟩ := info_parts info4f
  have HST := Lib.hid (fun k (hk : k < l) => Pl.rn_step (seed := y) hk)
  have HDD : Hid (Pl.dl y l n = Pl.tk l (Pl.rn l y n).2.1) := Lib.hid rfl
  have hmk := run_make w 55 4 ib (.bool false) Try.underlying55 hib hzb .i64 .i64 (l : Int) (l : Int) (by omega) (by omega) (by rw [hyb]; omega) (by omega)
  rw [Int.toNat_natCast, hnb, Nat.mul_one] at hmk
  have hst : StB (w.alloc (.cells (madeCells #[.bool false] l) 4)) w.heap.size l (Pl.rn l y 0).2.1 := StF.new w l 4 Value.bool false
  have hB0 := (Below.refl w.heap.size w).alloc (Nat.le_refl _) (.cells (madeCells #[.bool false] l) 4)
  change Sem.run _ _ _ = Result.ok _ (w.alloc (.cells (madeCells #[.bool false] l) 4)) at hmk
  generalize w.alloc (.cells (madeCells #[.bool false] l) 4) = w3 at *
  obtain ⟨g, hg⟩ : ∃ g, w.heap.size = g := ⟨_, rfl⟩
  have HG := Lib.hid hg
  rw [hg] at hst hmk
  clear hib hzb hnb hyb hg
  go_enter Try.func39, Try.ntmps39
  go_wp2
  clear hmk
  go_loopw [0, 9, 10, 11, 41] (fun vx _ _ _ j wr => ∃ k : Nat, k ≤ n ∧ j = .int .i64 k ∧ vx = .int .i64 (Pl.rn l y k).1 ∧ StB wr g l (Pl.rn l y k).2.1 ∧ (Pl.rn l y k).1 ≤ 2147483646 ∧ Below w.heap.size w wr) (fun _ _ _ _ j _ => n - (intOf j).toNat)
  case atStart => exact ⟨0, Nat.zero_le _, rfl, rfl, hst, hy1, hB0⟩
  case round =>
    clear hst hB0
    obtain ⟨k, hk, rfl, rfl, hst, hx, hB⟩ := hrel
    obtain ⟨wo, rfl⟩ : ∃ wo, wo = wr := ⟨_, rfl⟩
    by_cases hlt : k < n
    · have hltI : (k : Int) < (n : Int) := by omega
      obtain ⟨X, Y, jj, p, t, t', d, d', U, U', g1, g2, g3, g4, g5, g6, g7, g8, g9, g10, g11, g12⟩ := HST.out k (by omega)
      rw [g1] at hst hx ⊢
      simp only at hst hx
      have hYb : Y ≤ 2147483646 := by omega
      have hz : (Pl.rst' l t 0)[jj]? = some p := by rw [Pl.rst'_zero, g3]; exact g9
      have k1 : IntKind.i64.wrap ((X : Int) * 16807) = (X : Int) * 16807 := IntWalk.i64_in _ (by omega)
      have k2 : ((X : Int) * 16807).tmod 2147483647 = (Y : Int) := by rw [g5]; rfl
      have k3 : (X : Int) * 16807 % 2147483647 = (Y : Int) := by rw [g5]; rfl
      have k5 : (Y : Int) % ((l : Int) - (k : Int)) = (jj : Int) := by rw [show (l : Int) - (k : Int) = ((l - k : Nat) : Int) from by omega, g6]; rfl
      have k4 : (Y : Int).tmod ((l : Int) - (k : Int)) = (jj : Int) := by rw [show (l : Int) - (k : Int) = ((l - k : Nat) : Int) from by omega, g6]; rfl
      have k6 : ¬ (l : Int) - (k : Int) = 0 := by omega
      have HG2 := Lib.hid g2
      have HG10 := Lib.hid g10
      have HZ := Lib.hid hz
      have hjl : jj < 60 := by omega
      clear g1 g2 g3 g4 g5 g6 g7 g8 g9 g10 g11 g12 hz
      go_wp2
      go_loopw [10, 11, 54] (fun va _ j wr => ∃ i a : Nat, i ≤ l ∧ a ≤ jj ∧ j = .int .i64 i ∧ va = .int .i64 a ∧ Hid ((Pl.rst' l t i)[a]? = some p) ∧ wr = wo) (fun _ _ j _ => l - (intOf j).toNat)
      case atStart => exact ⟨0, jj, Nat.zero_le _, Nat.le_refl _, rfl, rfl, HZ, rfl⟩
      case round =>
        obtain ⟨i, a, hi, ha, rfl, rfl, hz, hwr⟩ := hrel
        rw [hwr]
        clear hwr
        by_cases hil : i < l
        · have hilI : (i : Int) < (l : Int) := by omega
          have hcu := hst.cell hil
          have hfr := hst.frozen i
          obtain ⟨v, hv⟩ : ∃ v, t i = v := ⟨_, rfl⟩
          rw [hv] at hcu
          cases v with
          | true =>
            have HZ2 : Hid ((Pl.rst' l t (i + 1))[a]? = some p) := Lib.hid (by rw [← Pl.rst'_yes hil hv]; exact hz.out)
            clear hv hz
            go_wp2
            go_roundw
            case rel => exact ⟨i + 1, a, by omega, by omega, by go_num, rfl, HZ2, trivial⟩
            case measure => simp [intOf]; omega
          | false =>
            have hz2 := hz.out
            rw [Pl.rst'_no hil hv] at hz2
            cases a with
            | zero =>
              have HP : Hid (p = i) := Lib.hid (by simp at hz2; exact hz2.symm)
              have hst2 := hst.set (f' := fun q => if q = i then true else t q) i true (fun _ _ => rfl)
              have hW2 := hB.setCell (p := ⟨g, i, none⟩) (by show w.heap.size ≤ g; have := HG.out; omega) (.bool true)
              clear hv hz hz2
              go_wp2
              go_roundw
              case rel =>
                refine ⟨k + 1, by omega, by go_num, ?_⟩
                rw [HG2.out]
                refine ⟨rfl, ?_, hYb, hW2⟩
                show StB _ g l t'
                rw [HG10.out, HP.out]
                exact hst2
              case measure => simp [intOf]; omega
            | succ a =>
              have HZ2 : Hid ((Pl.rst' l t (i + 1))[a]? = some p) := Lib.hid (by simpa using hz2)
              clear hv hz hz2
              go_wp2
              go_roundw
              case rel => exact ⟨i + 1, a, by omega, by omega, by go_num, by go_num, HZ2, trivial⟩
              case measure => simp [intOf]; omega
        · obtain rfl : i = l := by omega
          have := hz.out
          rw [Pl.rst'_end] at this
          simp at this
    · obtain rfl : k = n := by omega
      obtain ⟨t, ht⟩ : ∃ t, (Pl.rn l y k).2.1 = t := ⟨_, rfl⟩
      rw [ht] at hst
      rw [ht] at HDD
      have hgw : g < wo.heap.size := hst.lt
      clear ht hx
      have hw0 : w.heap.size ≤ wo.heap.size := hB.size
      go_wp2
      go_loopw [12, 13, 14, 72] (fun v _ _ j wr => ∃ i : Nat, i ≤ l ∧ j = .int .i64 i ∧ wr.ownsRow wo.heap.size 3 1 v (Pl.tk i t).length (flt irc (Pl.tk i t)) ∧ StB wr g l t ∧ wo.heap.size ≤ wr.heap.size ∧ Below w.heap.size w wr) (fun _ _ _ j _ => l - (intOf j).toNat)
      case atStart => exact ⟨0, Nat.zero_le _, rfl, World.ownsRow_nil _ _ _ _, hst, Nat.le_refl _, hB⟩
      case round =>
        clear hst hB
        obtain ⟨i, hi, rfl, hd, hst, hsz, hB⟩ := hrel
        obtain ⟨wp, rfl⟩ : ∃ wp, wp = wr := ⟨_, rfl⟩
        by_cases hil : i < l
        · have hilI : (i : Int) < (l : Int) := by omega
          have hcu := hst.cell hil
          have hfr := hst.frozen i
          obtain ⟨v, hv⟩ : ∃ v, t i = v := ⟨_, rfl⟩
          rw [hv] at hcu
          have hle : (Pl.tk i t).length ≤ 60 := Nat.le_trans (Nat.le_trans (List.length_filter_le _ _) (by rw [List.length_range]; exact Nat.le_refl i)) (by omega)
          cases v with
          | true =>
            have HE : Hid (Pl.tk (i + 1) t = Pl.tk i t ++ [i]) := Lib.hid (by rw [Pl.tk_snoc, if_pos hv])
            have HOW := Lib.hid (hd.alloc (.cells (irc i).toArray 3))
            have HSB := Lib.hid hst
            clear hv hd hst
            generalize Pl.tk i t = T at *
            go_wp2_with (at_builtin; refine wpList_append_own _ rfl _ _ 33 rfl wo.heap.size 3 i0 _ 1 8 Try.underlying33 hi0 hz0 hn0 hy0 rfl (by decide) _ _ _ rfl HOW.out ⟨wp.heap.size, 0, none⟩ 1 1 (irc i) rfl rfl (new_cells' _ _ _ rfl) (encIr.one i) (by unfold maxLen; omega) (by omega) (by simp; omega) ?_; intro v' w9 hown' hgrow _)
            have hBa := hB.alloc hB.size (.cells (irc i).toArray 3)
            have hB9 := hBa.grown hgrow hBa.size (fun s e => by have := (HOW.out.lt s e).1; omega)
            have hS9 : StB w9 g l t := HSB.out.below (((Below.refl wo.heap.size wp).alloc hsz (.cells (irc i).toArray 3)).grown hgrow (by have := hsz; simp; omega) (fun s e => (HOW.out.lt s e).1)) hgw
            have hsz9 : wo.heap.size ≤ w9.heap.size := by have := hgrow.size; simp at this; omega
            go_roundw
            case rel => exact ⟨i + 1, by omega, by go_num, by rw [HE.out, List.length_append, flt_append, flt_one]; exact hown', hS9, hsz9, hB9⟩
            case measure => simp [intOf]; omega
          | false =>
            have HE : Hid (Pl.tk (i + 1) t = Pl.tk i t) := Lib.hid (by rw [Pl.tk_snoc, if_neg (by rw [hv]; decide)])
            have HD := Lib.hid hd
            have HSB := Lib.hid hst
            clear hv hd hst
            go_wp2
            go_roundw
            case rel => exact ⟨i + 1, by omega, by go_num, by rw [HE.out]; exact HD.out, HSB.out, hsz, hB⟩
            case measure => simp [intOf]; omega
        · obtain rfl : i = l := by omega
          have hto : wp.ownsRow w.heap.size 3 1 u12 (Pl.dl y i k).length (flt irc (Pl.dl y i k)) := by
            rw [HDD.out]
            refine ⟨hd.1, ?_⟩
            rcases hd.2 with h | ⟨g, cap, cur, e, hbase, r⟩
            · exact .inl h
            · exact .inr ⟨g, cap, cur, e, Nat.le_trans hw0 hbase, r⟩
          obtain ⟨A1, c1', hv1, hr1, hl1', hc1⟩ := rows_of_owns encIr hto
          subst hv1
          clear hto hd hst
          go_wp2
          go_ret2
          exact ⟨A1, c1', rfl, hr1, hl1', hB⟩
end Go.Proofs.Ytfkhlglagokodaa
