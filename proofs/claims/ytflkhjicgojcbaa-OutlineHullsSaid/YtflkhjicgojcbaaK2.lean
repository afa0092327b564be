import Derived.Test.YtflkhjicgojcbaaK1
import Derived.Test.YtflkhjicgojcbaaL8
import Derived.Test.YtflkhjicgojcbaaV1
import Derived.Laws.MakeOwn
namespace Go.Proofs.Ytflkhjicgojcbaa
open Go.RowKit Go.Shelf

theorem turn_r (a b p : Geo.XY) (ha : Wid a) (hb : Wid b) (hp : Wid p) (r : Int) (h : Geo.Cross a b p = r) (w : World) :
    Calls Try.prog 100 #[.agg #[.int .i64 a.1, .int .i64 a.2], .agg #[.int .i64 b.1, .int .i64 b.2], .agg #[.int .i64 p.1, .int .i64 p.2]] w fun e w' => e = .returned (.int .i64 r) ∧ Below w.heap.size w w' := by
  obtain ⟨⟨a1, a2⟩, a3, a4⟩ := ha
  obtain ⟨⟨b1, b2⟩, b3, b4⟩ := hb
  obtain ⟨⟨c1, c2⟩, c3, c4⟩ := hp
  refine (turn_any a.1 a.2 b.1 b.2 p.1 p.2 (by omega) (by omega) (by omega) (by omega) (by omega) (by omega) (by omega) (by omega) (by omega) (by omega) (by omega) (by omega) w).mono fun e w' ⟨he, hb⟩ => ⟨?_, hb⟩
  rw [he, ← h, ← Geo.turn_eq]
  rfl
theorem own_init {W : World} {B g n c : Nat} {ps : List Geo.XY} (hn : ps.length = n) (h : W.ownsRow B 38 2 (.slice (some ⟨g, 0, none⟩) n c) n (flat ps)) : W.ownsRow B 38 2 (.slice (some ⟨g, 0, none⟩) (n - 1) c) (n - 1) (flat ps.dropLast) := by
  obtain ⟨h0, h1⟩ := h
  rcases h1 with ⟨he, _⟩ | ⟨g', cap, cur, he, hg, hb, h1, h2, h3, h4⟩
  · cases he
  · cases he
    refine ⟨by rw [flat_length, List.length_dropLast, hn], .inr ⟨g, c, cur, rfl, hg, hb, by omega, h2, h3, ?_⟩⟩
    have e : flat ps.dropLast = (flat ps).take ((n - 1) * 2) := by
      by_cases hz : ps = []
      · subst hz; simp [flat]
      · have hp := List.dropLast_concat_getLast hz
        conv => rhs; rw [← hp, flat_append]
        rw [List.take_append_of_le_length (by rw [flat_length, List.length_dropLast, hn]; exact Nat.le_refl _), List.take_of_length_le (by rw [flat_length, List.length_dropLast, hn]; exact Nat.le_refl _)]
    rw [e, ← h4, List.take_take, Nat.min_eq_left (by omega)]
def lenV : Value → Nat
  | .slice _ n _ => n
  | _ => 0
/-- the outer loop: the chain of the places so far -/
def ChSt (w : World) (l : List Geo.XY) (v i : Value) (wr : World) : Prop := ∃ k : Nat, k ≤ l.length ∧ i = .int .i64 k ∧
  wr.ownsRow w.heap.size 38 2 v (Geo.chainL (l.take k)).length (flat (Geo.chainL (l.take k)).reverse) ∧ Below w.heap.size w wr
/-- the inner loop: what is left of it -/
def PopSt (w wo : World) (T : Nat) (p : Geo.XY) (s0 : List Geo.XY) (v : Value) (wr : World) : Prop := ∃ s : List Geo.XY, Geo.popK p s = Geo.popK p s0 ∧ (s.length ≤ s0.length ∧ ∀ x, x ∈ s → x ∈ s0) ∧
  wr.ownsRow w.heap.size 38 2 v s.length (flat s.reverse) ∧ Blk wr T 38 #[.int .i64 p.1, .int .i64 p.2] ∧ Below T wo wr
theorem popK_mem (p : Geo.XY) : ∀ s x, x ∈ Geo.popK p s → x ∈ s
  | [], _, h => h
  | [_], _, h => h
  | b :: a :: r, x, h => by
    rw [Geo.popK] at h
    split at h
    · exact List.mem_cons_of_mem _ (popK_mem p (a :: r) x h)
    · exact h
theorem chainL_mem : ∀ (l : List Geo.XY) (x : Geo.XY), x ∈ Geo.chainL l → x ∈ l := by
  intro l
  induction hn : l.length generalizing l with
  | zero => intro x h; rw [List.eq_nil_of_length_eq_zero hn] at h; exact absurd h (by simp [Geo.chainL])
  | succ n ih =>
    intro x h
    have hne : l ≠ [] := by intro e; rw [e] at hn; simp at hn
    obtain ⟨l', p, rfl⟩ : ∃ l' p, l = l' ++ [p] := ⟨l.dropLast, l.getLast hne, (List.dropLast_concat_getLast hne).symm⟩
    rw [Geo.chainL_snoc] at h
    unfold Geo.push at h
    rcases List.mem_cons.1 h with rfl | h
    · simp
    · exact List.mem_append_left _ (ih l' (by simp at hn; exact hn) x (popK_mem p _ x h))
theorem popK_len (p : Geo.XY) : ∀ s, (Geo.popK p s).length ≤ s.length
  | [] => Nat.le_refl _
  | [_] => Nat.le_refl _
  | b :: a :: r => by
    rw [Geo.popK]
    split
    · have := popK_len p (a :: r)
      simp at this ⊢; omega
    · exact Nat.le_refl _
theorem chainL_le : ∀ (l : List Geo.XY), (Geo.chainL l).length ≤ l.length := by
  intro l
  induction hn : l.length generalizing l with
  | zero => rw [List.eq_nil_of_length_eq_zero hn]; simp [Geo.chainL]
  | succ n ih =>
    have hne : l ≠ [] := by intro e; rw [e] at hn; simp at hn
    obtain ⟨l', p, rfl⟩ : ∃ l' p, l = l' ++ [p] := ⟨l.dropLast, l.getLast hne, (List.dropLast_concat_getLast hne).symm⟩
    rw [Geo.chainL_snoc]
    unfold Geo.push
    have := popK_len p (Geo.chainL l')
    have := ih l' (by simp at hn; exact hn)
    simp; omega

set_option maxRecDepth 100000 in
set_option maxHeartbeats 4000000 in
theorem chain_any (b off c : Nat) (l : List Geo.XY) (hl : l.length ≤ 5000) (hw : ∀ p, p ∈ l → Wid p) (w : World) (hb : b < w.heap.size)
    (hc : ∀ k, k < l.length → w.cell? ⟨b, off + k * 2, none⟩ = some (.int .i64 (Geo.X l k).1) ∧ w.cell? ⟨b, off + k * 2 + 1, none⟩ = some (.int .i64 (Geo.X l k).2)) :
    Calls Try.prog 106 #[.slice (some ⟨b, off, none⟩) l.length c] w fun e w' => ∃ v, e = .returned v ∧ w'.ownsRow w.heap.size 38 2 v (Geo.chainL l).length (flat (Geo.chainL l).reverse) ∧ Below w.heap.size w w' := by
  have HC := Lib.hid hc
  have HW := Lib.hid hw
  clear hc hw
  obtain ⟨i0, hi, hz0, hz1, hz2⟩ := info_parts info38'
  go_enter Try.func106, Try.ntmps106
  go_wp2_with (at_make; refine wpList_make_own _ rfl _ _ 22 rfl w.heap.size 38 i0 _ 2 Try.underlying22 hi hz0 hz1 .i64 .i64 _ l.length rfl rfl rfl (by rw [hz2]; omega) (by unfold maxLen; omega) (Nat.le_refl _) ?_; intro w0 hown0 hgrow0)
  have hB0 : Below w.heap.size w w0 := (Below.refl _ w).grown hgrow0 (Nat.le_refl _) (fun k e => by cases e)
  clear hgrow0
  go_loopw [3, 11] (fun v i wr => ChSt w l v i wr) (fun _ i _ => l.length - (intOf i).toNat)
  case atStart => exact ⟨0, Nat.zero_le _, rfl, hown0, hB0⟩
  case round =>
    clear hown0 hB0
    obtain ⟨k, hk, rfl, hown, hB⟩ := hrel
    obtain ⟨wo, rfl⟩ : ∃ wo, wo = wr := ⟨_, rfl⟩
    by_cases hlt : k < l.length
    · have c1 : wo.cell? ⟨b, off + k * 2, none⟩ = some (.int .i64 (Geo.X l k).1) := (hB.cell (p := ⟨b, off + k * 2, none⟩) hb).trans (HC.out k hlt).1
      have c2 : wo.cell? ⟨b, off + k * 2 + 1, none⟩ = some (.int .i64 (Geo.X l k).2) := (hB.cell (p := ⟨b, off + k * 2 + 1, none⟩) hb).trans (HC.out k hlt).2
      have HS : Hid (Geo.chainL (l.take (k + 1)) = Geo.push (Geo.chainL (l.take k)) (Geo.X l k)) := Lib.hid (by rw [take_x l k hlt, Geo.chainL_snoc])
      have HM : Hid (∀ x, x ∈ Geo.chainL (l.take k) → Wid x) := Lib.hid (fun x hx => HW.out x (List.mem_of_mem_take (chainL_mem _ x hx)))
      have HP := Lib.hid (HW.out _ (Geo.X_mem hlt))
      have hlen : (Geo.chainL (l.take k)).length ≤ k := Nat.le_trans (chainL_le _) (List.length_take_le _ _)
      generalize hs0 : Geo.chainL (l.take k) = s0 at *
      generalize hpp : Geo.X l k = p at *
      clear hs0 hpp
      have bT := Blk.new wo 38 #[.int .i64 p.1, .int .i64 p.2]
      have hown1 := hown.alloc (.cells #[.int .i64 p.1, .int .i64 p.2] 38)
      have hBT := (Below.refl wo.heap.size wo).alloc (Nat.le_refl _) (.cells #[.int .i64 p.1, .int .i64 p.2] 38)
      have hoT : ∀ s, u3.ownBlock = some s → s < wo.heap.size := fun s e => (hown.lt s e).2
      go_wp2
      generalize wo.alloc (.cells #[.int .i64 p.1, .int .i64 p.2] 38) = wT at *
      obtain ⟨T, hT⟩ : ∃ T, T = wo.heap.size := ⟨_, rfl⟩
      rw [← hT] at bT hBT hoT ⊢
      have hTw : w.heap.size ≤ T := by have := hB.size; omega
      have HT := Lib.hid hT
      clear hT hown c1 c2
      go_loopw [3] (fun v wr => PopSt w wo T p s0 v wr) (fun v _ => lenV v)
      case atStart => exact ⟨s0, rfl, ⟨Nat.le_refl _, fun _ h => h⟩, hown1, bT, hBT⟩
      case round =>
        clear bT hown1 hBT hoT
        obtain ⟨s, hps, ⟨hsl0, hmem⟩, hown, bT, hB2⟩ := hrel
        have hBw : Below w.heap.size w wr := hB.trans (hB2.mono hTw)
        have hsl : s.length ≤ k := Nat.le_trans hsl0 hlen
        obtain ⟨A, cp, rfl, hpt, hcp⟩ := pts_of_owns' (ps := s.reverse) (by rw [List.length_reverse]; exact hown)
        rw [List.length_reverse] at hcp hown ⊢
        have b1 := bT.cell 0
        have b2 := bT.cell 1
        simp only [List.getElem?_toArray, List.getElem?_cons_zero, List.getElem?_cons_succ] at b1 b2
        by_cases h1 : s.length ≤ 1
        · have hd : decide ((1 : Int) < (s.length : Int)) = false := by simp; omega
          have HN : Hid (Geo.chainL (l.take (k + 1)) = p :: s) := Lib.hid (by
            rw [HS.out, Geo.push, ← hps]
            match s, h1 with
            | [], _ => rfl
            | [_], _ => rfl)
          clear hps h1 hpt
          have z1 := fun s : Ext wr => s.cell b1
          have z2 := fun s : Ext wr => s.cell b2
          go_wp2_with fail
          refine wp_region_ext (by kernel_rfl) (by kernel_rfl) ?_
          repeat (go_big_quiet_step (fail))
          refine wpQuiet_nil ?_
          rintro _ ⟨sF, rfl⟩
          have hownF := own_keep hown sF.h
          have hBF := hBw.trans (sF.h.mono hBw.size)
          have y1 := z1 sF
          have y2 := z2 sF
          clear z1 z2 hown
          generalize sF.w = wF at *
          clear sF b1 b2 bT
          go_wp2_with (at_builtin; refine wpList_append_own _ rfl _ _ 22 rfl w.heap.size 38 i0 _ 2 16 Try.underlying22 hi hz0 hz1 hz2 rfl (by decide) _ _ _ rfl (hownF.alloc _) ⟨wF.heap.size, 0, none⟩ 1 1 [.int .i64 p.1, .int .i64 p.2] rfl rfl (new_cells _ _ _) (one_two _ _) (by unfold maxLen; omega) (by omega) (by have := hBF.size; simp; omega) ?_; intro v' w2 hown' hgrow _)
          have hB' : Below w.heap.size w w2 := (hBF.alloc hBF.size _).grown hgrow (by have := hBF.size; simp; omega) (fun k e => (hownF.lt k e).1)
          clear hgrow
          go_wp2
          go_roundw
          case rel => exact ⟨k + 1, by omega, by go_num, by rw [HN.out, List.length_cons, List.reverse_cons, flat_append]; exact hown', hB'⟩
          case measure => simp [intOf]; omega
        · obtain ⟨z, a, r, rfl⟩ : ∃ z a r, s = z :: a :: r := by
            match s, h1 with
            | z :: a :: r, _ => exact ⟨z, a, r, rfl⟩
            | [], h1 => simp at h1
            | [_], h1 => simp at h1
          have HWa := Lib.hid (HM.out a (hmem a (by simp)))
          have HWz := Lib.hid (HM.out z (hmem z (by simp)))
          have HMM : Hid (∀ x, x ∈ a :: r → x ∈ s0) := Lib.hid (fun x hx => hmem x (List.mem_cons_of_mem _ hx))
          have hrl : (a :: r).length = (z :: a :: r).length - 1 := by simp
          have hpop : Geo.popK p (z :: a :: r) = if Geo.Cross a z p ≤ 0 then Geo.popK p (a :: r) else z :: a :: r := by rw [Geo.popK]
          have hrev : (z :: a :: r).reverse = (a :: r).reverse ++ [z] := List.reverse_cons ..
          have hdl : (z :: a :: r).reverse.dropLast = (a :: r).reverse := by rw [hrev, List.dropLast_concat]
          obtain ⟨n, hn⟩ : ∃ n, n = (z :: a :: r).length := ⟨_, rfl⟩
          have hn2 : 2 ≤ n := by rw [hn]; simp
          have hx1 : Geo.X (z :: a :: r).reverse (n - 1) = z := by
            rw [Geo.X_rev (by omega), ← hn, show n - 1 - (n - 1) = 0 by omega]; rfl
          have hx2 : Geo.X (z :: a :: r).reverse (n - 2) = a := by
            rw [Geo.X_rev (by omega), ← hn, show n - 1 - (n - 2) = 1 by omega]; rfl
          have hfl : (flat (z :: a :: r).reverse).length = n * 2 := by rw [flat_length, List.length_reverse, hn]
          obtain ⟨f1, f2⟩ := flat_get (z :: a :: r).reverse (n - 1) (by rw [List.length_reverse]; omega)
          obtain ⟨f3, f4⟩ := flat_get (z :: a :: r).reverse (n - 2) (by rw [List.length_reverse]; omega)
          rw [hx1] at f1 f2
          rw [hx2] at f3 f4
          rw [← hn] at hown hcp hsl hrl ⊢
          obtain ⟨g, rfl⟩ : ∃ g, A = some ⟨g, 0, none⟩ := by
            rcases hown.2 with ⟨he, hz⟩ | ⟨g, _, _, he, _⟩
            · omega
            · cases he; exact ⟨g, rfl⟩
          have m1 := hown.cellAt ((n - 1) * 2) (by omega)
          have m2 := hown.cellAt ((n - 1) * 2 + 1) (by omega)
          have m3 := hown.cellAt ((n - 2) * 2) (by omega)
          have m4 := hown.cellAt ((n - 2) * 2 + 1) (by omega)
          rw [f1] at m1
          rw [f2] at m2
          rw [f3] at m3
          rw [f4] at m4
          have HNn := Lib.hid hn
          have HSL0 := Lib.hid hsl0
          have HPP := Lib.hid hps
          have HPO := Lib.hid hpop
          have HDL := Lib.hid hdl
          have HRL := Lib.hid hrl
          clear hx1 hx2 hfl f1 f2 f3 f4 hn hps hpop hdl hrev hrl hmem hpt hsl0 h1
          obtain ⟨cr, hcr⟩ : ∃ cr, Geo.Cross a z p = cr := ⟨_, rfl⟩
          have HCR := Lib.hid hcr
          clear hcr
          have hd : decide ((1 : Int) < (n : Int)) = true := by simp; omega
          have z1 := fun s : Ext wr => s.cell b1
          have z2 := fun s : Ext wr => s.cell b2
          have z3 := fun s : Ext wr => s.cell m1
          have z4 := fun s : Ext wr => s.cell m2
          have z5 := fun s : Ext wr => s.cell m3
          have z6 := fun s : Ext wr => s.cell m4
          by_cases hz : cr ≤ 0
          · go_wp2_with fail
            refine wp_region_ext (by kernel_rfl) (by kernel_rfl) ?_
            repeat (go_big_quiet_step ((go_at_call 100; refine calls_ext (turn_r a z p HWa.out HWz.out HP.out cr HCR.out _))))
            refine wpQuiet_nil ?_
            rintro _ ⟨sF, rfl⟩
            have hownF := own_keep hown sF.h
            have hBF := hB2.trans (sF.h.mono (Nat.le_of_lt bT.lt))
            have bF := bT.below sF.h bT.lt
            clear z1 z2 z3 z4 z5 z6 b1 b2 m1 m2 m3 m4 bT hown hBw hB2
            generalize sF.w = wF at *
            clear sF
            go_wp2
            go_roundw
            case rel => exact ⟨a :: r, by rw [← HPP.out, HPO.out, if_pos (by rw [HCR.out]; exact hz)], ⟨by have := HSL0.out; simp at this ⊢; omega, HMM.out⟩, by
              have := own_init (by rw [List.length_reverse]; exact HNn.out.symm) hownF
              rw [HDL.out] at this
              rw [HRL.out]
              exact this, bF, hBF⟩
            case measure => simp [lenV]; omega
          · have HN : Hid (Geo.chainL (l.take (k + 1)) = p :: z :: a :: r) := Lib.hid (by
              rw [HS.out, Geo.push, ← HPP.out, HPO.out, if_neg (by rw [HCR.out]; exact hz)])
            go_wp2_with fail
            refine wp_region_ext (by kernel_rfl) (by kernel_rfl) ?_
            repeat (go_big_quiet_step ((go_at_call 100; refine calls_ext (turn_r a z p HWa.out HWz.out HP.out cr HCR.out _))))
            refine wpQuiet_nil ?_
            rintro _ ⟨sF, rfl⟩
            have hownF := own_keep hown sF.h
            have hBF := hBw.trans (sF.h.mono hBw.size)
            have y1 := z1 sF
            have y2 := z2 sF
            clear z1 z2 z3 z4 z5 z6 hown m1 m2 m3 m4 hB2
            generalize sF.w = wF at *
            clear sF b1 b2 bT
            go_wp2_with (at_builtin; refine wpList_append_own _ rfl _ _ 22 rfl w.heap.size 38 i0 _ 2 16 Try.underlying22 hi hz0 hz1 hz2 rfl (by decide) _ _ _ rfl (hownF.alloc _) ⟨wF.heap.size, 0, none⟩ 1 1 [.int .i64 p.1, .int .i64 p.2] rfl rfl (new_cells _ _ _) (one_two _ _) (by unfold maxLen; omega) (by omega) (by have := hBF.size; simp; omega) ?_; intro v' w2 hown' hgrow _)
            have hB' : Below w.heap.size w w2 := (hBF.alloc hBF.size _).grown hgrow (by have := hBF.size; simp; omega) (fun k e => (hownF.lt k e).1)
            clear hgrow
            go_wp2
            go_roundw
            case rel => exact ⟨k + 1, by omega, by go_num, by rw [HN.out, List.length_cons, List.reverse_cons, flat_append, ← HNn.out]; exact hown', hB'⟩
            case measure => simp [intOf]; omega
    · obtain rfl : k = l.length := by omega
      go_wp2
      go_ret
      exact ⟨_, rfl, by rw [List.take_length] at hown; exact hown, hB⟩
end Go.Proofs.Ytflkhjicgojcbaa
