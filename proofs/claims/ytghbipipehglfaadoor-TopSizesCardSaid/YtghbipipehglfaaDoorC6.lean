/- The program's Covers and Apart. -/
import Derived.Test.YtghbipipehglfaaDoorC5
namespace Go.Proofs.YtghbipipehglfaaDoor
open Go.RowKit Go.Shelf

/-- the sets of fittedSets -/
abbrev sets (ss : List Pl.Sz) (hs : List Pl.Hd) : Nat → Nat := fun q => Pl.setF ss hs q hs.length
theorem isF_sets (ss : List Pl.Sz) (hs : List Pl.Hd) : Pl.IsF ss hs (sets ss hs) := fun q j => by
  show (Pl.setF ss hs q hs.length).testBit j = _
  unfold Pl.setF
  rw [Pl.msk_bit]
theorem sets_40 (ss : List Pl.Sz) (hs : List Pl.Hd) (h40 : hs.length ≤ 40) (q : Nat) : sets ss hs q < 2 ^ 40 :=
  Nat.lt_of_lt_of_le ((isF_sets ss hs).lt q) (Nat.pow_le_pow_right (by omega) h40)

set_option maxRecDepth 100000 in
set_option maxHeartbeats 4000000 in
theorem Covers_any (A B Al : Option Addr) (ss : List Pl.Sz) (hs : List Pl.Hd) (l : List Int) (c d cl : Nat) (w : World) (hmax : l.length ≤ 9223372036854775807) (hT : Tab w) (hI : Szs w A ss) (hJ : Hds w B hs) (hL : Ints w Al l) :
    Calls Tryd.prog 19 #[.slice A ss.length c, .slice B hs.length d, .slice Al l.length cl] w fun e w' => e = .returned (.tuple #[.bool (cvV ss hs l), .int .i64 (cvE ss hs l)]) ∧ Below w.heap.size w w' := by
  have H1 := Lib.hid (fitted_any A B ss hs c d w hI hJ)
  rcases cvE_three ss hs l with ⟨hb, he, hv⟩ | ⟨hb, hm, he, hv⟩ | ⟨m, hb, hm, he, hv⟩
  · rw [he, hv]
    have hne : (bothE ss hs != 0) = true := bne_iff_ne.2 hb
    have HB := Lib.hid hb
    clear hb he hv
    generalize bothE ss hs = E at *
    go_enter Tryd.func19, Tryd.ntmps19
    go_wp2_with (go_at_call 39; refine H1.out.mono ?_; rintro e w1 ⟨v, rfl, _, hv, hb1⟩; obtain rfl := hv HB.out)
    go_ret2
    exact ⟨rfl, hb1⟩
  · obtain ⟨⟨s1, s2⟩, ⟨h1, h2⟩⟩ := bothE_ok hb
    rw [he, hv]
    rw [hb] at H1
    have H2 := Lib.hid (fun (w' : World) (hbb : Below w.heap.size w w') => setOf_any Al l cl ss.length (by omega) hmax w' (hL.below hbb))
    rw [hm] at H2
    clear hb he hv hm hI hJ hL s2 h2
    go_enter Tryd.func19, Tryd.ntmps19
    go_wp2_with (first | (go_at_call 39; refine H1.out.mono ?_; rintro e w1 ⟨v, rfl, hv, _, hb1⟩; obtain ⟨g, rfl, hg, hst⟩ := hv rfl) | (go_at_call 52; refine (H2.out _ hb1).mono ?_; rintro e w' ⟨rfl, hw'⟩; obtain rfl : w1 = w' := hw'.symm; unfold setV))
    go_ret2
    exact ⟨rfl, hb1⟩
  · obtain ⟨⟨s1, s2⟩, ⟨h1, h2⟩⟩ := bothE_ok hb
    rw [he, hv]
    rw [hb] at H1
    have H2 := Lib.hid (fun (w' : World) (hbb : Below w.heap.size w w') => setOf_any Al l cl ss.length (by omega) hmax w' (hL.below hbb))
    rw [hm] at H2
    have hF := isF_sets ss hs
    have HU := Lib.hid (fun (g : Nat) (w' : World) (hbb : Below w.heap.size w w') (hst : StA w' g ss.length (sets ss hs)) => union_any g ss.length ss.length m (sets ss hs) (by omega) (Pl.setL_ok hm).1 (sets_40 ss hs h1) w' (hT.below hbb) hst)
    have HO := Lib.hid (fun w => first_any hs.length (by omega) w)
    have hbb : (((Pl.unl (sets ss hs) (Pl.els m 64) : Nat) : Int) == ((2 ^ hs.length - 1 : Nat) : Int)) = Pl.cv ss hs (nats l) := by
      have h3 := hF.cover (Pl.els m 64)
      rw [Bool.eq_iff_iff, beq_iff_eq, ← Pl.cv_congr (mem_nats hm (by omega)), ← h3]
      omega
    clear hb he hv hm hI hJ hL s2 h2 hF
    generalize Pl.cv ss hs (nats l) = C at *
    generalize Pl.unl (sets ss hs) (Pl.els m 64) = U at *
    generalize 2 ^ hs.length - 1 = H at *
    go_enter Tryd.func19, Tryd.ntmps19
    go_wp2_with (first | (go_at_call 39; refine H1.out.mono ?_; rintro e w1 ⟨v, rfl, hv, _, hb1⟩; obtain ⟨g, rfl, hg, hst⟩ := hv rfl) | (go_at_call 52; refine (H2.out _ hb1).mono ?_; rintro e w' ⟨rfl, hw'⟩; obtain rfl : w1 = w' := hw'.symm; unfold setV) | (go_at_call 53; refine (HU.out _ _ hb1 hst).mono ?_; rintro e w2 ⟨rfl, hb2⟩) | (go_at_call 54; refine (HO.out _).mono ?_; rintro e w' ⟨rfl, hw'⟩; obtain rfl : w2 = w' := hw'.symm))
    go_ret2
    exact ⟨rfl, hb1.trans (hb2.mono hb1.size)⟩

theorem and_nat {a b : Nat} (ha : a < 2 ^ 40) (hb : b < 2 ^ 60) : bits BinOp.and IntKind.u64 (a : Int) (b : Int) = ((a &&& b : Nat) : Int) := bits_and_u64_nat a b (by omega) (by omega)
theorem and_40 {a b : Nat} (ha : a < 2 ^ 40) : a &&& b < 2 ^ 40 := Nat.lt_of_le_of_lt Nat.and_le_left ha

set_option maxHeartbeats 1000000 in
/-- a size that fits two of the heads of a set -/
theorem apart1_any (bm m a : Nat) (ha : a < 2 ^ 40) (hm : m < 2 ^ 60) (w : World) (hc : w.cell? ⟨bm, 0, none⟩ = some (.int .u64 m)) :
    Calls Tryd.prog 57 #[.int .u64 a, .pointer (some ⟨bm, 0, none⟩)] w fun e w' => e = .returned (.bool (decide (1 < Pl.cnt (a &&& m)))) ∧ w' = w := by
  have hA := and_nat ha hm
  have H := Lib.hid (count_any (a &&& m) (and_40 ha) w)
  have HD : Hid (decide (1 < Pl.cnt (a &&& m)) = decide ((Pl.cnt (a &&& m) : Int) > 1)) := Lib.hid (by rw [Bool.eq_iff_iff, decide_eq_true_eq, decide_eq_true_eq]; omega)
  generalize Pl.cnt (a &&& m) = N at *
  generalize a &&& m = x at *
  go_enter Tryd.func57, Tryd.ntmps57
  go_wp2_with fail
  refine H.out.mono ?_
  rintro e w' ⟨rfl, hw'⟩
  obtain rfl : w = w' := hw'.symm
  go_wp2
  go_ret
  refine ⟨?_, rfl⟩
  rw [HD.out]
  first | rfl | simp

namespace Pl
/-- from set k on none has two elements of a set -/
def apK (F : Nat → Nat) (n m k : Nat) : Bool := ((List.range n).drop k).all fun q => decide (cnt (F q &&& m) ≤ 1)
theorem apK_step {F : Nat → Nat} {n m k : Nat} (h : k < n) : apK F n m k = (decide (cnt (F k &&& m) ≤ 1) && apK F n m (k + 1)) := by
  unfold apK
  rw [List.drop_eq_getElem_cons (by simpa using h), List.all_cons, List.getElem_range]
theorem apK_end (F : Nat → Nat) (n m : Nat) : apK F n m n = true := by
  unfold apK
  rw [List.drop_of_length_le (by simp)]; rfl
end Pl

set_option maxRecDepth 100000 in
set_option maxHeartbeats 2000000 in
theorem indexfn_any (g n c bm m : Nat) (F : Nat → Nat) (hn : n ≤ 40) (hm : m < 2 ^ 60) (hF : ∀ q, F q < 2 ^ 40) (w : World) (hst : StA w g n F) (hc : w.cell? ⟨bm, 0, none⟩ = some (.int .u64 m)) :
    Calls Tryd.prog 85 #[.slice (some ⟨g, 0, none⟩) n c, .func (.func 57) #[] #[.pointer (some ⟨bm, 0, none⟩)]] w fun e w' => ∃ r : Int, (e = .returned (.int .i64 r) ∧ decide (0 ≤ r) = !Pl.apK F n m 0) ∧ w' = w := by
  obtain ⟨R, hR⟩ : ∃ R, Pl.apK F n m 0 = R := ⟨_, rfl⟩
  rw [hR]
  have HR := Lib.hid hR
  have HA := Lib.hid (fun a ha => apart1_any bm m a ha hm w hc)
  have HF := Lib.hid hF
  have eg : ∀ args w, (callFunc 57 args).run Tryd.prog w = .ok (.enter 57 args) w := enters_of Tryd.func57 (by kernel_rfl) rfl
  clear hR hF hc
  go_enter Tryd.func85, Tryd.ntmps85
  go_wp2
  go_loop [5, 8] (fun _ i => ∃ k : Nat, k ≤ n ∧ i = .int .i64 k ∧ Hid (Pl.apK F n m k = R)) (fun _ i => n - (intOf i).toNat)
  case atStart => exact ⟨0, Nat.zero_le _, rfl, HR⟩
  case round =>
    clear HR
    obtain ⟨k, hk, rfl, hr⟩ := hrel
    by_cases hlt : k < n
    · have hck : w.cell? ⟨g, k, none⟩ = some (.int .u64 (F k : Nat)) := hst.cell hlt
      have hr2 := Lib.hid (hr.out.symm.trans (Pl.apK_step hlt))
      have HK := Lib.hid (HA.out (F k) (HF.out k))
      clear hr
      generalize F k = a at hck hr2 HK
      by_cases h1 : 1 < Pl.cnt (a &&& m)
      · have HD : Hid (decide (1 < Pl.cnt (a &&& m)) = true) := Lib.hid (decide_eq_true h1)
        have HN : Hid (R = false) := Lib.hid (by rw [hr2.out, decide_eq_false (by omega)]; rfl)
        clear h1 hr2
        go_wp2_with fail
        refine HK.out.mono ?_
        rintro e w' ⟨rfl, hw'⟩
        obtain rfl : w = w' := hw'.symm
        rw [HD.out]
        go_wp2
        go_ret
        exact ⟨_, ⟨rfl, by rw [HN.out]; simp⟩, rfl⟩
      · have HD : Hid (decide (1 < Pl.cnt (a &&& m)) = false) := Lib.hid (decide_eq_false h1)
        have HN : Hid (Pl.apK F n m (k + 1) = R) := Lib.hid (by rw [hr2.out, decide_eq_true (by omega)]; rfl)
        clear h1 hr2
        go_wp2_with fail
        refine HK.out.mono ?_
        rintro e w' ⟨rfl, hw'⟩
        obtain rfl : w = w' := hw'.symm
        rw [HD.out]
        go_wp2
        go_round
        case rel => exact ⟨k + 1, by omega, by go_num, HN⟩
        case measure => simp [intOf]; omega
    · obtain rfl : k = n := by omega
      have HN : Hid (R = true) := Lib.hid (by rw [← hr.out, Pl.apK_end])
      go_wp2
      go_ret
      first | exact ⟨_, ⟨rfl, by rw [HN.out]; rfl⟩, rfl⟩ | exact ⟨_, rfl, by rw [HN.out]; rfl⟩ | exact ⟨rfl, by rw [HN.out]; rfl⟩ | (rw [HN.out]; simp)

set_option maxRecDepth 100000 in
set_option maxHeartbeats 1000000 in
theorem containsfn_any (g n c bm m : Nat) (F : Nat → Nat) (hn : n ≤ 40) (hm : m < 2 ^ 60) (hF : ∀ q, F q < 2 ^ 40) (w : World) (hst : StA w g n F) (hc : w.cell? ⟨bm, 0, none⟩ = some (.int .u64 m)) :
    Calls Tryd.prog 59 #[.slice (some ⟨g, 0, none⟩) n c, .func (.func 57) #[] #[.pointer (some ⟨bm, 0, none⟩)]] w fun e w' => e = .returned (.bool (!Pl.apm F n m)) ∧ w' = w := by
  have H := Lib.hid (indexfn_any g n c bm m F hn hm hF w hst hc)
  rw [show Pl.apm F n m = Pl.apK F n m 0 from rfl]
  generalize Pl.apK F n m 0 = R at *
  clear hc hst
  go_enter Tryd.func59, Tryd.ntmps59
  go_wp2_with fail
  refine H.out.mono ?_
  rintro e w' ⟨r, ⟨rfl, hr⟩, hw'⟩
  obtain rfl : w = w' := hw'.symm
  have HRR := Lib.hid hr
  clear hr
  go_wp2
  go_ret
  refine ⟨?_, rfl⟩
  rw [← HRR.out]
  first | rfl | simp
end Go.Proofs.YtghbipipehglfaaDoor
