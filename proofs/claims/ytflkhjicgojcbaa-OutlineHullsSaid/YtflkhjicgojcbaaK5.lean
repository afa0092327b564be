import Derived.Test.YtflkhjicgojcbaaK3
import Derived.Test.YtflkhjicgojcbaaShelf1
namespace Go.Proofs.Ytflkhjicgojcbaa
open Go.RowKit Go.Shelf Go.Sort Go.Lib

theorem sort_any (B g c n : Nat) (ps : List Geo.XY) (hn : ps.length = n) (hl : n ≤ 5000) (w : World) (hown : w.ownsRow B 38 2 (.slice (some ⟨g, 0, none⟩) n c) n (flat ps)) :
    Calls Try.prog 105 #[.slice (some ⟨g, 0, none⟩) n c, .func (.func 97) #[] #[]] w fun e w' => e = .returned (.tuple #[]) ∧ w'.ownsRow B 38 2 (.slice (some ⟨g, 0, none⟩) n c) n (flat (srt ps)) ∧ Below B w w' := by
  subst hn
  have eg : ∀ args w, (callFunc 97 args).run Try.prog w = .ok (.enter 97 args) w := enters_of Try.func97 (by kernel_rfl) rfl
  have hg : g < w.heap.size := (hown.lt g rfl).2
  have hcon := AnyQ.slices_SortFunc_total Try.sortXY 2 Try.isAgg38 Try.sizeOf38 encXY (fun _ => rfl) (fun x v hv => by simp [encXY] at hv; rcases hv with rfl | rfl <;> rfl) fbI swo_low 97 #[] g 0 c ps.toArray w eg (fb_lays g 0 _ w) (holdsK_own hown) hg (by simp; omega) tot_low
  change Calls Try.prog 105 _ _ _ at hcon
  simp only [List.size_toArray] at hcon
  refine hcon.mono fun e w' ⟨he, n, os, hw⟩ => ⟨he, ?_⟩
  rw [hw]
  exact own_sortK (srt_len ps) hown
end Go.Proofs.Ytflkhjicgojcbaa
namespace Go.Proofs.Ytflkhjicgojcbaa
open Go.RowKit Go.Shelf Go.Sort Go.Lib

theorem chain_r (b off c n : Nat) (l : List Geo.XY) (e : l.length = n) (hl : n ≤ 5000) (hw : ∀ p, p ∈ l → Wid p) (w : World) (h0 : 0 < n) (hP : Pts w (some ⟨b, off, none⟩) l) (m : Nat) (hm : (Geo.chainL l).length = m) :
    Calls Try.prog 106 #[.slice (some ⟨b, off, none⟩) n c] w fun e w' => ∃ v, e = .returned v ∧ w'.ownsRow w.heap.size 38 2 v m (flat (Geo.chainL l).reverse) ∧ Below w.heap.size w w' := by
  subst e hm
  obtain ⟨_, _, he, hb, hc⟩ := pts_open hP h0
  cases he
  exact chain_any b off c l hl hw w hb hc
theorem reverse_bigr (B g c n : Nat) (ps : List Geo.XY) (e : ps.length = n) (h64 : n ≤ 10000) (h0 : 0 < n) (w : World) (hown : w.ownsRow B 38 2 (.slice (some ⟨g, 0, none⟩) n c) n (flat ps)) :
    Calls Try.prog 75 #[.slice (some ⟨g, 0, none⟩) n c] w fun e w' => e = .returned (.tuple #[]) ∧ w'.ownsRow B 38 2 (.slice (some ⟨g, 0, none⟩) n c) n (flat ps.reverse) ∧ Only g w w' := by
  subst e; exact reverse_big B g c ps h64 h0 w hown
theorem concat_bigr (S b1 c1 b2 c2 n1 n2 : Nat) (ps qs : List Geo.XY) (e1 : ps.length = n1) (e2 : qs.length = n2) (h0 : 0 < n1 + n2) (h64 : n1 + n2 ≤ 10000) (w : World) (hS : Blk w S 22 #[.slice (some ⟨b1, 0, none⟩) n1 c1, .slice (some ⟨b2, 0, none⟩) n2 c2])
    (hp : Pts w (some ⟨b1, 0, none⟩) ps) (hq : Pts w (some ⟨b2, 0, none⟩) qs) :
    Calls Try.prog 98 #[.slice (some ⟨S, 0, none⟩) 2 2] w fun e w' => ∃ v, e = .returned v ∧ w'.ownsRow w.heap.size 38 2 v (n1 + n2) (flat (ps ++ qs)) ∧ Below w.heap.size w w' := by
  subst e1 e2; exact concat_big S b1 0 c1 b2 0 c2 ps qs h0 h64 w hS hp hq
/-- the hull of sorted places, or these if they are few -/
def hullL (l : List Geo.XY) : List Geo.XY := if l.length < 3 then srt l else Geo.hullP (srt l)
theorem pts_own {W : World} {B g c n : Nat} {ps : List Geo.XY} (e : ps.length = n) (h : W.ownsRow B 38 2 (.slice (some ⟨g, 0, none⟩) n c) n (flat ps)) : Pts W (some ⟨g, 0, none⟩) ps ∧ n ≤ c := by
  subst e
  obtain ⟨A, c', he, hp, hc⟩ := pts_of_owns' h
  cases he
  exact ⟨hp, hc⟩

set_option maxRecDepth 100000 in
set_option maxHeartbeats 4000000 in
theorem hullOf_long (ad : Addr) (c : Nat) (l : List Geo.XY) (h3 : 3 ≤ l.length) (hl : l.length ≤ 200) (hw : ∀ p, p ∈ l → Wid p) (w : World) (hP : Pts w (some ad) l) :
    Calls Try.prog 91 #[.slice (some ad) l.length c] w fun e w' => ∃ v, e = .returned v ∧ w'.ownsRow w.heap.size 38 2 v (Geo.hullP (srt l)).length (flat (Geo.hullP (srt l))) ∧ Below w.heap.size w w' := by
  have HP := Lib.hid hP
  have HW := Lib.hid hw
  have HL := Lib.hid (srt_len l)
  have HWS : Hid (∀ p, p ∈ srt l → Wid p) := Lib.hid (fun p hp => hw p ((srt_mem l p).1 hp))
  have HWR : Hid (∀ p, p ∈ (srt l).reverse → Wid p) := Lib.hid (fun p hp => hw p ((srt_mem l p).1 (List.mem_reverse.1 hp)))
  have n3 : ¬ l.length < 3 := by omega
  clear hP hw
  go_enter Try.func91, Try.ntmps91
  go_wp2_with fail
  refine (clone_some ad c l (by omega) _ HP.out).mono ?_
  rintro e w1 ⟨v, rfl, hown1, hb1, _⟩
  obtain ⟨g, cp, rfl⟩ := owns_addr hown1 (by omega)
  have hg : w.heap.size ≤ g ∧ g < w1.heap.size := hown1.lt g rfl
  go_wp2_with fail
  refine (sort_any w.heap.size g cp l.length l rfl (by omega) _ hown1).mono ?_
  rintro e w2 ⟨rfl, hown2, hb2⟩
  clear hown1
  have hB2 := hb1.trans hb2
  have hg2 : g < w2.heap.size := Nat.lt_of_lt_of_le hg.2 hb2.size
  obtain ⟨m, hm⟩ : ∃ m, (Geo.chainL (srt l)).length = m := ⟨_, rfl⟩
  obtain ⟨m', hm'⟩ : ∃ m', (Geo.chainL (srt l).reverse).length = m' := ⟨_, rfl⟩
  have m2 : 2 ≤ m := by rw [← hm]; exact Geo.chainL_len (by rw [HL.out]; omega)
  have m2' : 2 ≤ m' := by rw [← hm']; exact Geo.chainL_len (by rw [List.length_reverse, HL.out]; omega)
  have m3 : m ≤ 200 := by rw [← hm]; exact Nat.le_trans (chainL_le _) (by rw [HL.out]; exact hl)
  have m3' : m' ≤ 200 := by rw [← hm']; exact Nat.le_trans (chainL_le _) (by rw [List.length_reverse, HL.out]; exact hl)
  have HMM := Lib.hid hm
  have HMM' := Lib.hid hm'
  clear hm hm'
  have hp2 := (pts_own HL.out hown2).1
  have HP2 := Lib.hid hp2
  have HO2 := Lib.hid hown2
  clear hp2 hown2 hb1 hb2
  go_wp2_with fail
  refine (chain_r g 0 cp l.length (srt l) HL.out (by omega) HWS.out _ (by omega) HP2.out m HMM.out).mono ?_
  rintro e w3 ⟨vu, rfl, hown3, hb3⟩
  obtain ⟨gu, cu, rfl⟩ := owns_addr hown3 (by omega)
  have hgu : w2.heap.size ≤ gu ∧ gu < w3.heap.size := hown3.lt gu rfl
  have hB3 := hB2.trans (hb3.mono hB2.size)
  have HO3 := Lib.hid (hown3.mono hB2.size)
  have HO2' := Lib.hid (own_keep HO2.out hb3)
  clear hown3 hb3
  go_wp2_with fail
  refine (reverse_bigr w.heap.size g cp l.length (srt l) HL.out (by omega) (by omega) _ HO2'.out).mono ?_
  rintro e w4 ⟨rfl, hown4, ho4⟩
  have hB4 := hB3.trans (ho4.below hg.1)
  have HO4 := Lib.hid (ho4.own HO3.out (by simp [Value.ownBlock]; omega))
  have hs4 := ho4.size
  have hgu4 : gu < w4.heap.size := by omega
  have HP4 := Lib.hid (pts_own (by rw [List.length_reverse]; exact HL.out) hown4).1
  clear ho4 hown4 hs4
  go_wp2_with fail
  refine (chain_r g 0 cp l.length (srt l).reverse (by rw [List.length_reverse]; exact HL.out) (by omega) HWR.out _ (by omega) HP4.out m' HMM'.out).mono ?_
  rintro e w5 ⟨vd, rfl, hown5, hb5⟩
  obtain ⟨gd, cd, rfl⟩ := owns_addr hown5 (by omega)
  have hB5 := hB4.trans (hb5.mono hB4.size)
  have HO5 := Lib.hid hown5
  have HO4' := Lib.hid (own_keep HO4.out hb5)
  have hcu := (pts_own (by rw [List.length_reverse]; exact HMM.out) HO4'.out).2
  have hcd := (pts_own (by rw [List.length_reverse]; exact HMM'.out) HO5.out).2
  clear hown5 hb5
  go_wp2_with fail
  have l1 : (0 : Int) ≤ (m : Int) - 1 := by omega
  have l2 : (0 : Int) ≤ (m' : Int) - 1 := by omega
  have l7 : (1 : Int) ≤ (m : Int) := by omega
  have l8 : (1 : Int) ≤ (m' : Int) := by omega
  have l3 : (m : Int) - 1 ≤ (cu : Int) := by omega
  have l4 : (m' : Int) - 1 ≤ (cd : Int) := by omega
  have l5 : ((m : Int) - 1).toNat = m - 1 := by omega
  have l6 : ((m' : Int) - 1).toNat = m' - 1 := by omega
  have k1 : IntKind.i64.wrap ((m : Int) - 1) = (m : Int) - 1 := IntWalk.i64_in _ (by omega)
  have k2 : IntKind.i64.wrap ((m' : Int) - 1) = (m' : Int) - 1 := IntWalk.i64_in _ (by omega)
  refine wp_region_tail 10 (by kernel_rfl) (by kernel_rfl) fun W hW => ?_
  simp only [List.take_succ_cons, List.take_zero, List.drop_succ_cons, List.drop_zero]
  iterate 10 still_step
  refine wpStill_nil ?_
  have hBW : Below w5.heap.size w5 W := by rw [hW]; exact (Below.refl _ _).drew
  clear hW k1 k2 l1 l2 l3 l4 l5 l6 l7 l8
  have hBX := hBW.alloc hBW.size (.cells #[.slice (some ⟨gu, 0, none⟩) (m - 1) cu, .slice (some ⟨gd, 0, none⟩) (m' - 1) cd] 22)
  have e1 : (Geo.chainL (srt l)).reverse.dropLast.length = m - 1 := by rw [List.length_dropLast, List.length_reverse, HMM.out]
  have e2 : (Geo.chainL (srt l).reverse).reverse.dropLast.length = m' - 1 := by rw [List.length_dropLast, List.length_reverse, HMM'.out]
  have q1 := (pts_own e1 (own_init (by rw [List.length_reverse]; exact HMM.out) HO4'.out)).1.below hBX
  have q2 := (pts_own e2 (own_init (by rw [List.length_reverse]; exact HMM'.out) HO5.out)).1.below hBX
  have E1 := Lib.hid e1
  have E2 := Lib.hid e2
  have Q1 := Lib.hid q1
  have Q2 := Lib.hid q2
  clear e1 e2 q1 q2
  go_wp2_with fail
  refine (concat_bigr W.heap.size gu cu gd cd (m - 1) (m' - 1) _ _ E1.out E2.out (by omega) (by omega) _ (Blk.new W 22 _) Q1.out Q2.out).mono ?_
  rintro e w7 ⟨v, rfl, hown7, hb7⟩
  go_wp2_with fail
  go_ret
  have hB7 := hBX.trans (hb7.mono hBX.size)
  have hlen : (Geo.hullP (srt l)).length = m - 1 + (m' - 1) := by unfold Geo.hullP; rw [List.length_append, E1.out, E2.out]
  refine ⟨_, rfl, ?_, hB5.trans (hB7.mono hB5.size)⟩
  rw [hlen]
  exact hown7.mono (Nat.le_trans hB5.size hBX.size)

set_option maxRecDepth 100000 in
set_option maxHeartbeats 1000000 in
theorem hullOf_short (ad : Addr) (c : Nat) (l : List Geo.XY) (h3 : l.length < 3) (w : World) (hP : Pts w (some ad) l) :
    Calls Try.prog 91 #[.slice (some ad) l.length c] w fun e w' => ∃ v, e = .returned v ∧ w'.ownsRow w.heap.size 38 2 v l.length (flat (srt l)) ∧ Below w.heap.size w w' := by
  have HP := Lib.hid hP
  clear hP
  go_enter Try.func91, Try.ntmps91
  go_wp2_with fail
  refine (clone_some ad c l (by omega) _ HP.out).mono ?_
  rintro e w1 ⟨v, rfl, hown1, hb1, hne⟩
  obtain ⟨g, cp, rfl⟩ : ∃ g cp, v = .slice (some ⟨g, 0, none⟩) l.length cp := by
    rcases hown1.2 with ⟨he, _⟩ | ⟨g, cap, _, he, _⟩
    · exact absurd he hne
    · exact ⟨g, cap, he⟩
  clear hne
  go_wp2_with fail
  refine (sort_any w.heap.size g cp l.length l rfl (by omega) _ hown1).mono ?_
  rintro e w2 ⟨rfl, hown2, hb2⟩
  clear hown1
  have hB2 := hb1.trans hb2
  have HO2 := Lib.hid hown2
  clear hown2 hb1 hb2
  go_wp2_with fail
  go_ret
  exact ⟨_, rfl, HO2.out, hB2⟩

set_option maxRecDepth 100000 in
set_option maxHeartbeats 1000000 in
theorem hullOf_none (c : Nat) (w : World) :
    Calls Try.prog 91 #[.slice none 0 c] w fun e w' => e = .returned (.slice none 0 0) ∧ w' = w := by
  have hn : ∀ w, Calls Try.prog 105 #[.slice none 0 0, .func (.func 97) #[] #[]] w fun e w' => e = .returned (.tuple #[]) ∧ w' = w := fun w => by
    have h := AnyF.slices_SortFunc_none Try.sortXY none 0 (.func (.func 97) #[] #[]) w
    change Calls Try.prog 105 _ _ _ at h
    exact h
  have HN := Lib.hid hn
  clear hn
  go_enter Try.func91, Try.ntmps91
  go_wp2_with fail
  refine (clone_none c _).mono ?_
  rintro e w1 ⟨rfl, rfl⟩
  go_wp2_with fail
  refine (HN.out _).mono ?_
  rintro e w2 ⟨rfl, rfl⟩
  go_wp2_with fail
  go_ret
  exact ⟨rfl, rfl⟩
end Go.Proofs.Ytflkhjicgojcbaa
