/- Check of the program; long; BarrelChecks. -/
import Derived.Test.YtlfbfdhdkccaeaaGreatK6
import Derived.Test.YtlfbfdhdkccaeaaGreatK7
import Derived.Test.YtlfbfdhdkccaeaaGreatN1
namespace Go.Proofs.YtlfbfdhdkccaeaaGreat
open Go.RowKit Go.Shelf Go.Sort

set_option maxRecDepth 100000 in
theorem Check_any (A : Option Addr) (l : List Pl.Bt) (c n : Nat) (hn : l.length = n) (AR : Option Addr) (rows : List (List Int)) (cr m : Nat) (hm : rows.length = m) (hm6 : m ≤ 1000) (w : World) (hI : Bts w A l) (hR : RR inL 1 w AR rows) :
    Calls Tryz.prog 9 #[.slice A n c, .slice AR m cr] w fun e w' => e = .returned (.int .i64 (Pl.ckE l rows)) ∧ Below w.heap.size w w' := by
  have HC := Lib.hid (valid_any A l c w hI)
  rw [hn] at HC
  obtain ⟨x, hx⟩ : ∃ x, Pl.vs l = x := ⟨_, rfl⟩
  rw [hx] at HC
  cases x
  · have HV : Hid (Pl.ckE l rows = 60) := Lib.hid (Pl.ckE_no hx)
    generalize Pl.ckE l rows = V at *
    clear hI hR hn hm hx
    go_enter Tryz.func9, Tryz.ntmps9
    go_wp2_with fail
    refine HC.out.mono ?_
    rintro e w1 ⟨rfl, hb1⟩
    go_wp2
    go_ret
    exact ⟨by rw [HV.out]; rfl, hb1⟩
  · have hn4 : n ≤ 40 := hn ▸ (Pl.ok_of hx).len
    have HK : Hid (∀ W, Below w.heap.size w W → Calls Tryz.prog 20 #[.slice A n c, .slice AR m cr] W fun e w' => e = .returned (.int .i64 (Pl.ckR l rows)) ∧ Below W.heap.size W w') := Lib.hid (fun W hB => checkRows_b A l c n hn hn4 AR rows cr m hm hm6 W (hI.below hB) (hR.below hB))
    rw [Pl.ckE_ok hx]
    generalize Pl.ckR l rows = V at *
    clear hI hR hn hm hx
    go_enter Tryz.func9, Tryz.ntmps9
    go_wp2_with fail
    refine HC.out.mono ?_
    rintro e w1 ⟨rfl, hb1⟩
    go_wp2_with fail
    refine (HK.out w1 hb1).mono ?_
    rintro e w2 ⟨rfl, hb2⟩
    have hB := hb1.trans (hb2.mono hb1.size)
    go_wp2
    go_ret
    exact ⟨rfl, hB⟩

/-- more than 60 rows, or one of more than 60 elements -/
def Pl.lng (rows : List (List Int)) : Bool := rows.any (fun r => decide (60 < r.length)) || decide (60 < rows.length)
theorem Pl.lng_no {rows : List (List Int)} (h : Pl.lng rows = false) : rows.length ≤ 60 ∧ ∀ k, k < rows.length → (rows.getD k []).length ≤ 60 := by
  unfold Pl.lng at h
  rw [Bool.or_eq_false_iff] at h
  refine ⟨by have := of_decide_eq_false h.2; omega, fun k hk => ?_⟩
  rcases Nat.lt_or_ge 60 (rows.getD k []).length with h1 | h1
  · rw [Pl.any_one hk (decide_eq_true h1)] at h; exact absurd h.1 (by simp)
  · exact h1

end Go.Proofs.YtlfbfdhdkccaeaaGreat

