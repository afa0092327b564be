/- The document's Cover. -/
import Derived.Test.YtghbipipehglfaaDoorC9
import Derived.Test.YtghbipipehglfaaDoorC10
namespace Go.Proofs.YtghbipipehglfaaDoor
open Go.RowKit Go.Shelf

namespace Pl
theorem cv_mono {ss : List Sz} {hs : List Hd} {l m : List Nat} (h : ∀ i ∈ l, i ∈ m) (hc : cv ss hs l = true) : cv ss hs m = true := by
  unfold cv at *
  rw [List.all_eq_true] at *
  intro j hj
  have := hc j hj
  unfold cvb at *
  rw [List.any_eq_true] at *
  obtain ⟨i, hi, hf⟩ := this
  exact ⟨i, h i hi, hf⟩
theorem fcv_eq (ss : List Sz) (hs : List Hd) (hn : ss.length ≤ 12) : fcv (cv ss hs) ss.length = if cv ss hs (List.range ss.length) = true then some (els (fwk (fun k => cv ss hs (els k ss.length)) (2 ^ ss.length - 1) (2 ^ ss.length - 1)) ss.length) else none := by
  split
  · rename_i h; exact fcv_some (by omega) h
  · rename_i h
    refine fcv_none fun l _ hl => ?_
    cases e : cv ss hs l with
    | false => rfl
    | true => exact absurd (cv_mono (fun i hi => List.mem_range.2 (hl i hi)) e) h
end Pl

set_option maxRecDepth 100000 in
set_option maxHeartbeats 4000000 in
theorem rCover_any (A B : Option Addr) (ss : List Pl.Sz) (hs : List Pl.Hd) (c d : Nat) (w : World) (c1 : ss.length ≤ c) (c2 : ss.length ≤ 9223372036854775807) (c3 : hs.length ≤ d) (c4 : hs.length ≤ 9223372036854775807) (hI : Szs w A ss) (hJ : Hds w B hs) :
    Calls Tryd.prog 24 #[.slice A ss.length c, .slice B hs.length d] w fun e w' => ∃ v, e = .returned (.tuple #[v, .int .i64 (coE ss hs)]) ∧ (∃ A' c', v = .slice A' (coL ss hs).length c' ∧ Ints w' A' (nts (coL ss hs))) ∧ Below w.heap.size w w' := by
  have H1 := Lib.hid (both_any A B ss hs c d w c1 c2 c3 c4 hI hJ)
  have fin : (bothE ss hs ≠ 0 ∧ coE ss hs = bothE ss hs ∧ coL ss hs = []) ∨ (bothE ss hs = 0 ∧ 12 < ss.length ∧ coE ss hs = 4 ∧ coL ss hs = []) ∨
      (bothE ss hs = 0 ∧ ss.length ≤ 12 ∧ ∃ R, Pl.fcv (Pl.cv ss hs) ss.length = R ∧ (R = none → coE ss hs = 32 ∧ coL ss hs = []) ∧ ∀ r, R = some r → coE ss hs = 0 ∧ coL ss hs = r) := by
    rcases coE_four ss hs with h | h | ⟨hb, h12, hc, he, hl⟩ | ⟨hb, h12, hc, he, hl⟩
    · exact .inl h
    · exact .inr (.inl h)
    · refine .inr (.inr ⟨hb, h12, _, rfl, fun _ => ⟨he, hl⟩, fun r hr => ?_⟩)
      rw [Pl.fcv_eq ss hs h12, hc] at hr
      cases hr
    · refine .inr (.inr ⟨hb, h12, _, rfl, fun hr => ?_, fun r hr => ⟨he, ?_⟩⟩)
      · rw [Pl.fcv_eq ss hs h12, hc] at hr
        cases hr
      · rw [Pl.fcv_eq ss hs h12, hc] at hr
        rw [hl]
        exact Option.some.inj hr
  rcases fin with ⟨hb, he, hl⟩ | ⟨hb, h12, he, hl⟩ | ⟨hb, h12, R, hR, hno, hyes⟩
  · rw [he, hl]
    have hne : (bothE ss hs != 0) = true := bne_iff_ne.2 hb
    clear hb he hl
    generalize bothE ss hs = E at *
    go_enter Tryd.func24, Tryd.ntmps24
    go_wp2_with (go_at_call 41; refine H1.out.mono ?_; rintro e w1 ⟨rfl, hb1⟩)
    go_ret2
    exact ⟨_, rfl, ⟨none, 0, rfl, .inl rfl⟩, hb1⟩
  · rw [he, hl]
    rw [hb] at H1
    clear hb he hl hI hJ
    go_enter Tryd.func24, Tryd.ntmps24
    go_wp2_with (go_at_call 41; refine H1.out.mono ?_; rintro e w1 ⟨rfl, hb1⟩)
    go_ret2
    exact ⟨_, rfl, ⟨none, 0, rfl, .inl rfl⟩, hb1⟩
  · obtain ⟨⟨s1, s2⟩, ⟨h1, h2⟩⟩ := bothE_ok hb
    rw [hb] at H1
    have HF := Lib.hid (fun (m : Nat) (hm : m ≤ 20) (w' : World) (hbb : Below w.heap.size w w') => rfirst_any A B ss hs c d w s2 h2 h1 s1 hI hJ m none [] 0 w' hbb (Ints.nil _ _) (fun _ => ⟨rfl, rfl⟩) (by simp) (by simp) (by simpa using hm))
    have HR : Hid (((List.range (ss.length + 1)).drop 0).findSome? (fun k => Pl.frs (Pl.cv ss hs) ss.length k []) = R) := Lib.hid hR
    have HNO := Lib.hid hno
    have HYES := Lib.hid hyes
    clear hb hI hJ s2 h2 hR hno hyes
    generalize coE ss hs = E at *
    generalize coL ss hs = L at *
    go_enter Tryd.func24, Tryd.ntmps24
    go_wp2_with (go_at_call 41; refine H1.out.mono ?_; rintro e w1 ⟨rfl, hb1⟩)
    go_loopw [7, 8, 9] (fun i _ _ wr => ∃ k : Nat, k ≤ ss.length + 1 ∧ i = .int .i64 k ∧ Hid (((List.range (ss.length + 1)).drop k).findSome? (fun k => Pl.frs (Pl.cv ss hs) ss.length k []) = R) ∧ Below w.heap.size w wr) (fun i _ _ _ => ss.length + 1 - (intOf i).toNat)
    case atStart => exact ⟨0, Nat.zero_le _, rfl, HR, hb1⟩
    case round =>
      clear hb1 HR
      obtain ⟨k, hk, rfl, hr, hB⟩ := hrel
      obtain ⟨wo, rfl⟩ : ∃ wo, wo = wr := ⟨_, rfl⟩
      by_cases hlt : k ≤ ss.length
      · obtain ⟨F, hF⟩ : ∃ F, Pl.frs (Pl.cv ss hs) ss.length k [] = F := ⟨_, rfl⟩
        have HRR : Hid (R = F.or (((List.range (ss.length + 1)).drop (k + 1)).findSome? (fun k => Pl.frs (Pl.cv ss hs) ss.length k []))) := Lib.hid (by
          rw [← hr.out, List.drop_eq_getElem_cons (by simp; omega), List.findSome?_cons, List.getElem_range]
          simp only [hF]
          cases F <;> rfl)
        have HRC := Lib.hid (HF.out k (by omega) wo hB)
        rw [hF] at HRC
        clear hr hF
        go_wp2_with fail
        refine HRC.out.mono ?_
        rintro e w3 ⟨v3, b3, rfl, hok3, hb3⟩
        have hB4 := hB.trans (hb3.mono hB.size)
        cases F with
        | some r =>
          obtain ⟨hbt, A3, c3, hv3, hI4, hnn3⟩ := hok3
          subst hbt
          subst hv3
          have HY := Lib.hid (HYES.out r HRR.out)
          go_wp2
          go_ret2
          obtain ⟨hE, hL⟩ := HY.out
          subst hE
          subst hL
          exact ⟨_, rfl, ⟨A3, c3, rfl, hI4⟩, hB4⟩
        | none =>
          have hbt : b3 = false := hok3
          subst hbt
          go_wp2
          go_roundw
          case rel => exact ⟨k + 1, by omega, by go_num, Lib.hid HRR.out.symm, hB4⟩
          case measure => simp [intOf]; omega
      · obtain rfl : k = ss.length + 1 := by omega
        have HN := Lib.hid (HNO.out (by rw [← hr.out, List.drop_of_length_le (by simp)]; rfl))
        have hgt : ¬ ((ss.length : Int) + 1 ≤ ss.length) := by omega
        go_wp2
        go_ret2
        obtain ⟨hE, hL⟩ := HN.out
        subst hE
        subst hL
        first | exact ⟨_, rfl, ⟨none, 0, rfl, .inl rfl⟩, hB⟩ | exact ⟨_, rfl, ⟨none, ⟨0, rfl⟩, .inl rfl⟩, hB⟩
end Go.Proofs.YtghbipipehglfaaDoor
