/- The document's number, four and coded (seat of disks and journals). -/
import Derived.Test.YtalfffkcmddakabZ3
namespace Go.Proofs.Ytalfffkcmddakab
open Go.RowKit Go.Shelf

/-- bytes that lie somewhere -/
def In8 (W : World) (b off : Nat) (l : Pl.Bs) : Prop := ∀ (i : Nat) (hi : i < l.length), W.rangeAt b (off + i * 1) (u8L l[i])
theorem rows_ownr {W : World} {base : Nat} {v : Value} {l : Pl.Bs} {n : Nat} (hn : l.length = n) (h : W.ownsRow base 5 1 v n (flt u8L l)) : ∃ A c, v = .slice A n c ∧ Rows u8L 1 W A l ∧ n ≤ c ∧ c ≤ maxLen := by
  subst hn
  exact rows_of_owns encU8 h
set_option maxRecDepth 100000 in
set_option maxHeartbeats 2000000 in
theorem rnum_any (b o c : Nat) (l : Pl.Bs) (hn : l.length = 4) (w : World) (hI : In8 w b o l) :
    Calls Try.prog 74 #[.slice (some ⟨b, o, none⟩) 4 c] w fun e w' => e = .returned (.int .i64 ((Pl.num l : Nat) : Int)) ∧ w' = w := by
  have HI := Lib.hid hI
  have HN := Lib.hid hn
  clear hI hn
  go_enter Try.func74, Try.ntmps74
  go_wp2
  go_loop [3, 5, 8] (fun x _ i => ∃ q : Nat, q ≤ 4 ∧ i = .int .i64 q ∧ x = .int .i64 ((Pl.num (l.take q) : Nat) : Int)) (fun _ _ i => 4 - (intOf i).toNat)
  case atStart => exact ⟨0, by omega, rfl, rfl⟩
  case round =>
    obtain ⟨q, hq, rfl, rfl⟩ := hrel
    by_cases hlt : q < 4
    · have hkl : q < l.length := by rw [HN.out]; omega
      have q0 : w.cell? ⟨b, o + q, none⟩ = some (.int .u8 (l[q].toNat : Int)) := by
        have := HI.out q hkl 0 _ rfl
        rw [Nat.mul_one, Nat.add_zero] at this
        exact this
      have hx : Pl.num (l.take q) < 16777216 := by
        have h1 := Pl.num_lt (l.take q) 0
        rw [List.length_take, Nat.min_eq_left (by omega)] at h1
        have h2 : 256 ^ q ≤ 256 ^ 3 := Nat.pow_le_pow_right (by omega) (by omega)
        unfold Pl.num
        omega
      have hy : l[q].toNat < 256 := l[q].toNat_lt
      have HS : Hid (Pl.num (l.take (q + 1)) = Pl.num (l.take q) * 256 + l[q].toNat) := Lib.hid (Pl.num_take_succ _ q hkl)
      generalize Pl.num (l.take q) = x at *
      generalize l[q].toNat = y at *
      have k1 : IntKind.i64.wrap (y : Int) = (y : Int) := IntWalk.i64_in _ (by omega)
      have k2 : IntKind.i64.wrap ((x : Int) * 256) = (x : Int) * 256 := IntWalk.i64_in _ (by omega)
      have k3 : IntKind.i64.wrap ((x : Int) * 256 + (y : Int)) = (x : Int) * 256 + (y : Int) := IntWalk.i64_in _ (by omega)
      clear hkl
      go_wp2
      go_round
      case rel => exact ⟨q + 1, by omega, by go_num, by rw [HS.out]; first | rfl | (congr 1; omega) | simp⟩
      case measure => simp [intOf]; omega
    · obtain rfl : q = 4 := by omega
      have HT : Hid (l.take 4 = l) := Lib.hid (List.take_of_length_le (by rw [HN.out]; exact Nat.le_refl _))
      go_wp2
      go_ret
      exact ⟨by rw [HT.out]; rfl, rfl⟩
set_option maxRecDepth 100000 in
set_option maxHeartbeats 1000000 in
theorem rfour_any (n : Nat) (w : World) :
    Calls Try.prog 75 #[.int .i64 (n : Nat)] w fun e w' => e = .returned (.slice (some ⟨w.heap.size, 0, none⟩) 4 4) ∧ w'.ownsRow w.heap.size 5 1 (.slice (some ⟨w.heap.size, 0, none⟩) 4 4) 4 (flt u8L (Pl.four n)) ∧ Below w.heap.size w w' := by
  have t1 : Int.tdiv (n : Int) 16777216 = (n : Int) / 16777216 := Int.tdiv_eq_ediv_of_nonneg (by omega)
  have t2 : Int.tdiv (n : Int) 65536 = (n : Int) / 65536 := Int.tdiv_eq_ediv_of_nonneg (by omega)
  have t3 : Int.tdiv (n : Int) 256 = (n : Int) / 256 := Int.tdiv_eq_ediv_of_nonneg (by omega)
  have t4 : ∀ x : Int, wrap64 x % 256 = x % 256 := fun x => by unfold wrap64; omega
  have hB : Below w.heap.size w (w.alloc (.cells (flt u8L (Pl.four n)).toArray 5)) := (Below.refl w.heap.size w).alloc (Nat.le_refl _) _
  have hO : (w.alloc (.cells (flt u8L (Pl.four n)).toArray 5)).ownsRow w.heap.size 5 1 (.slice (some ⟨w.heap.size, 0, none⟩) 4 4) 4 (flt u8L (Pl.four n)) :=
    ⟨rfl, .inr ⟨_, 4, _, rfl, Nat.le_refl _, heap_new w _, Nat.le_refl _, by decide, rfl, by rfl⟩⟩
  rw [four_cells] at hB hO ⊢
  have HB := Lib.hid hB
  have HO := Lib.hid hO
  clear hB hO
  go_enter Try.func75, Try.ntmps75
  go_wp2
  go_ret
  rw [t4, t4, t4]
  exact ⟨rfl, HO.out, HB.out⟩
set_option maxRecDepth 100000 in
set_option maxHeartbeats 2000000 in
theorem rcoded_any (A : Option Addr) (l : Pl.Bs) (n c t : Nat) (hn : l.length = n) (hm : n ≤ 70000) (hnil : A = none → c = 0) (w : World) (hI : Rows u8L 1 w A l) :
    Calls Try.prog 61 #[.slice A n c, .int .i64 (t : Nat)] w fun e w' => ∃ u, e = .returned u ∧ w'.ownsRow w.heap.size 5 1 u (n + 8) (flt u8L (Pl.cod l t)) ∧ Below w.heap.size w w' := by
  have HI := Lib.hid hI
  have HL := Lib.hid hn
  have HN := Lib.hid hnil
  have HC : Hid (flt u8L (Pl.cod l t) = (flt u8L (Pl.four n) ++ flt u8L l) ++ flt u8L (Pl.four t)) := Lib.hid (by unfold Pl.cod; rw [flt_append, flt_append, hn])
  clear hI hn hnil
  go_enter Try.func61, Try.ntmps61
  go_wp2_with fail
  refine (rfour_any n _).mono ?_
  rintro e w1 ⟨rfl, hO1, hB1⟩
  have HI1 := Lib.hid (HI.out.below hB1)
  go_wp2_with (at_builtin; refine wpList_app8 rfl _ _ rfl w.heap.size _ 4 _ rfl hO1 hB1.size A l n c HL.out rfl HI1.out HN.out (by omega) ?_; intro v2 w2 hO2 hb2)
  have hB2 := hB1.trans hb2
  refine (rfour_any t _).mono ?_
  rintro e w3 ⟨rfl, hO3, hB3⟩
  have hO4 := own_keep hO2 hB3
  obtain ⟨Aq, cq, eq, hRq, _⟩ := rows_ownr (l := Pl.four t) rfl hO3
  obtain ⟨rfl, rfl⟩ : Aq = some ⟨w2.heap.size, 0, none⟩ ∧ cq = 4 := by cases eq; exact ⟨rfl, rfl⟩
  have hB4 := hB2.trans (hB3.mono hB2.size)
  have HO := Lib.hid hO4
  have HRq := Lib.hid hRq
  clear hO1 hO2 hO3 hO4 HI1 eq hRq hB3
  go_wp2_with (at_builtin; refine wpList_app8 rfl _ _ rfl w.heap.size _ (4 + n) _ rfl HO.out hB4.size (some ⟨w2.heap.size, 0, none⟩) (Pl.four t) 4 4 rfl rfl HRq.out (fun h => by cases h) (by omega) ?_; intro v5 w5 hO5 hb5)
  have HO5 := Lib.hid hO5
  have hB5 := hB4.trans hb5
  clear hO5 hb5
  go_wp2
  go_ret
  refine ⟨_, rfl, ?_, hB5⟩
  rw [HC.out]
  have := HO5.out
  rwa [show 4 + n + 4 = n + 8 by omega] at this
end Go.Proofs.Ytalfffkcmddakab
