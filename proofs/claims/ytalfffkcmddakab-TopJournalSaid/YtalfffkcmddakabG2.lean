/- Balance of the program and of the document. -/
import Derived.Test.YtalfffkcmddakabE5
import Derived.Test.YtalfffkcmddakabJQ
import Derived.Test.YtalfffkcmddakabG1
namespace Go.Proofs.Ytalfffkcmddakab
open Go.RowKit Go.Shelf

theorem ba_cases (l : List Pl.En) (d : Int) {y z : Bool} (hy : Pl.vB l = y) (hz : Pl.inB 0 d 100000 = z) :
    (Pl.baE l d = if !y then 90 else if !z then 2 else 0) ∧ (Pl.baV l d = if Pl.baE l d = 0 then Pl.bal d l else 0) := by
  unfold Pl.baV Pl.baE
  rw [hy, hz]
  exact ⟨rfl, rfl⟩
set_option maxRecDepth 100000 in
set_option maxHeartbeats 4000000 in
theorem balance2_b (A : Option Addr) (l : List Pl.En) (c n : Nat) (hn : l.length = n) (hm : n ≤ maxLen) (day : Int) (w : World) (hI : Rows enL 4 w A l) :
    Calls Try.prog 52 #[.slice A n c, .int .i64 day] w fun e w' => e = .returned (.tuple #[.int .i64 (Pl.baV l day), .int .i64 (Pl.baE l day)]) ∧ Below w.heap.size w w' := by
  obtain ⟨y, hy⟩ : ∃ y, Pl.vB l = y := ⟨_, rfl⟩
  obtain ⟨z, hz⟩ : ∃ z, Pl.inB 0 day 100000 = z := ⟨_, rfl⟩
  have HC := Lib.hid (ba_cases l day hy hz)
  have HV := Lib.hid (valid_any A l c n hn hm y hy w hI)
  have HD := Lib.hid (fun W => isday_b day z hz W)
  have HVb := Lib.hid (fun h : y = true => Pl.vb_iff.1 (hy.trans h))
  have HI := Lib.hid hI
  have HN := Lib.hid hn
  obtain ⟨q, hq⟩ : ∃ q, Pl.bal day l = q := ⟨_, rfl⟩
  have HQ := Lib.hid hq
  rw [hq] at HC
  clear hy hz hI hn hq
  generalize Pl.baE l day = er at *
  generalize Pl.baV l day = vr at *
  have HE := Lib.hid HC.out.1
  have HR := Lib.hid HC.out.2
  clear HC
  cases y
  case false =>
    have h1 := HE.out
    have h2 := HR.out
    simp only [Bool.not_false, if_true] at h1
    subst h1
    simp at h2
    subst h2
    clear HE HR
    go_enter Try.func52, Try.ntmps52
    go_wp2_with fail
    refine HV.out.mono ?_
    rintro e w1 ⟨rfl, hb⟩
    go_wp2
    go_ret2
    exact ⟨rfl, hb⟩
  case true =>
  cases z
  case false =>
    have h1 := HE.out
    have h2 := HR.out
    simp at h1
    subst h1
    simp at h2
    subst h2
    clear HE HR
    go_enter Try.func52, Try.ntmps52
    go_wp2_with fail
    refine HV.out.mono ?_
    rintro e w1 ⟨rfl, hb⟩
    go_wp2_with fail
    refine (HD.out w1).mono ?_
    rintro e w2 ⟨rfl, hw2⟩
    subst hw2
    go_wp2
    go_ret2
    exact ⟨rfl, hb⟩
  case true =>
    have h1 := HE.out
    have h2 := HR.out
    simp at h1
    subst h1
    simp at h2
    subst h2
    have HB := Lib.hid (HVb.out (by simp))
    have HL : Hid (n ≤ 200) := Lib.hid (by rw [← HN.out]; exact HB.out.len)
    clear HE HR HVb
    go_enter Try.func52, Try.ntmps52
    go_wp2_with fail
    refine HV.out.mono ?_
    rintro e w1 ⟨rfl, hb⟩
    go_wp2_with fail
    refine (HD.out w1).mono ?_
    rintro e w2 ⟨rfl, hw2⟩
    subst hw2
    go_wp2_with fail
    refine (balance_b A l c n HN.out HL.out HB.out.each day vr HQ.out _ (HI.out.below hb)).mono ?_
    rintro e w4 ⟨rfl, hb4⟩
    have hB4 := hb.trans (hb4.mono hb.size)
    clear hb4
    go_wp2
    go_ret2
    exact ⟨rfl, hB4⟩
end Go.Proofs.Ytalfffkcmddakab
