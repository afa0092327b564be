/- Valid of the program. -/
import Derived.Test.YtalfffkcmddakabE3
import Derived.Maps.OwnSet
namespace Go.Proofs.Ytalfffkcmddakab
open Go.RowKit Go.Shelf

theorem all_okN {l : List Pl.En} (h : l.all Pl.vE = true) : ∀ e, e ∈ l → OkN (Pl.nm e) := fun e he => okN_ve (List.all_eq_true.1 h e he)
set_option maxRecDepth 100000 in
set_option maxHeartbeats 4000000 in
theorem valid_any (A : Option Addr) (l : List Pl.En) (c n : Nat) (hn : l.length = n) (hm : n ≤ maxLen) (v : Bool) (hv : Pl.vB l = v) (w : World) (hI : Rows enL 4 w A l) :
    Calls Try.prog 53 #[.slice A n c] w fun e w' => e = .returned (.bool v) ∧ Below w.heap.size w w' := by
  have eg : ∀ args w, (callFunc 54 args).run Try.prog w = .ok (.enter 54 args) w := enters_of Try.func54 (by kernel_rfl) rfl
  obtain ⟨x, hx⟩ : ∃ x, l.all Pl.vE = x := ⟨_, rfl⟩
  have HE := Lib.hid (every_e 54 eg A l c n hn hm Pl.vE x hx w hI (fun y hy W hW => ventry_b y _ rfl W))
  by_cases h2 : n ≤ 200
  case neg =>
    have h3 : ¬ ((n : Int) ≤ 200) := by omega
    have HV : Hid (v = false) := Lib.hid (by rw [← hv]; unfold Pl.vB; rw [decide_eq_false (by rw [hn]; exact h2)]; rfl)
    clear hv HE hx eg hI hn
    go_enter Try.func53, Try.ntmps53
    go_wp2
    go_ret
    exact ⟨by rw [HV.out]; rfl, Below.refl _ _⟩
  case pos =>
  have h3 : (n : Int) ≤ 200 := by omega
  cases x
  case false =>
    have HV : Hid (v = false) := Lib.hid (by rw [← hv]; unfold Pl.vB; rw [hx]; simp)
    clear hv hx eg hI hn
    go_enter Try.func53, Try.ntmps53
    go_wp2_with fail
    refine HE.out.mono ?_
    rintro e w1 ⟨rfl, hb⟩
    go_wp2
    go_ret
    exact ⟨by rw [HV.out]; rfl, hb⟩
  case true =>
    have HO := Lib.hid (all_okN hx)
    have HI := Lib.hid hI
    have HN := Lib.hid hn
    have HV : Hid (decide (((Pl.gm l).length : Int) = (n : Int)) = v) := Lib.hid (by
      have hg := (Pl.gm_len l).2
      have hv' : decide ((l.map Pl.nm).Nodup) = v := by
        rw [← hv]; unfold Pl.vB
        rw [hx, decide_eq_true (show l.length ≤ 200 by rw [hn]; exact h2)]; rfl
      rw [← hv', decide_eq_decide, ← hg]
      omega)
    clear hv hx eg hI hn
    go_enter Try.func53, Try.ntmps53
    go_wp2_with fail
    refine HE.out.mono ?_
    rintro e w1 ⟨rfl, hb⟩
    clear HE
    go_wp2_with fail
    refine (byname_any A l c n HN.out (by omega) HO.out w1 (HI.out.below hb)).mono ?_
    rintro e w2 ⟨rfl, hM, hb2⟩
    have HM := Lib.hid hM
    have hB2 := hb.trans (hb2.mono hb.size)
    have hl := hM.len 3
    clear hM hb hb2 HM
    go_wp2
    go_ret
    refine ⟨?_, hB2⟩
    rw [← HV.out]
    first | rfl | (simp; done) | (congr 2; simp)
end Go.Proofs.Ytalfffkcmddakab
