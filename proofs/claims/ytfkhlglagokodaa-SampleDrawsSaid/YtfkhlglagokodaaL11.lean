/- SampleDraws. -/
import Derived.Test.YtfkhlglagokodaaA6
import Derived.Test.YtfkhlglagokodaaC1
import Derived.Test.YtfkhlglagokodaaE1
import Derived.Test.YtfkhlglagokodaaN2
namespace Go.Proofs.Ytfkhlglagokodaa
open Go.RowKit Go.Shelf

theorem Dl_len (x L s : Int) : (Pl.Dl x L s).length ≤ 60 := by
  cases h : Pl.dok x L s with
  | false => rw [(Pl.dok_no h).2]; exact Nat.zero_le _
  | true =>
    obtain ⟨y, l, n, rfl, rfl, rfl, q1, q2, q3, q4, q5, e1, e2⟩ := Pl.dok_ok h
    rw [e2, Pl.dl_len q5]
    omega
theorem De_len (x L s : Int) : Pl.De x L s = 0 → ((Pl.Dl x L s).length : Int) = s := by
  intro h0
  cases h : Pl.dok x L s with
  | false => rw [(Pl.dok_no h).1] at h0; cases h0
  | true =>
    obtain ⟨y, l, n, rfl, rfl, rfl, q1, q2, q3, q4, q5, e1, e2⟩ := Pl.dok_ok h
    rw [e2, Pl.dl_len q5]
theorem rows_int {W : World} {A : Option Addr} {l : List Nat} (h : Rows irc 1 W A l) : Rows inL 1 W A (l.map (fun n : Nat => (n : Int))) := by
  rcases h with rfl | ⟨b, off, h1, h2, h3⟩
  · exact .inl rfl
  · refine .inr ⟨b, off, h1, h2, fun i hi => ?_⟩
    rw [List.getElem_map]
    exact h3 i (by simpa using hi)

set_option maxRecDepth 100000 in
set_option maxHeartbeats 4000000 in
theorem law_draws (x L s : Int) (P : Option Addr) (ps : List Bool) (cp : Nat) (w : World) (hP : Rows boL 1 w P ps) :
    Calls Try.prog 9 #[.int .i64 x, .int .i64 L, .int .i64 s, .slice P ps.length cp] w fun e w' => e = .returned (.bool true) ∧ Below w.heap.size w w' := by
  have H1 := Lib.hid (fun (w' : World) => Draw_b x L s w')
  have H2 := Lib.hid (fun (w' : World) => rDraw_b x L s w')
  have H7 := Lib.hid awake_any
  have HL := Lib.hid (Dl_len x L s)
  have HC := Lib.hid (De_len x L s)
  have HP := Lib.hid hP
  clear hP
  generalize Pl.De x L s = v3 at *
  generalize Pl.Dl x L s = l at *
  obtain ⟨N, hN⟩ : ∃ N, l.length = N := ⟨_, rfl⟩
  have HN := Lib.hid hN
  have hN6 : N ≤ 60 := by rw [← hN]; exact HL.out
  rw [hN] at H1 H2 HC
  clear hN
  go_enter Try.func9, Try.ntmps9
  go_wp2_with fail
  refine (H1.out _).mono ?_
  rintro e w1 ⟨A, c, rfl, hr, hc, hb1⟩
  have HR := Lib.hid hr
  clear hr
  go_wp2_with fail
  refine (H2.out _).mono ?_
  rintro e w2 ⟨A', c', rfl, hr', hc', hb2⟩
  have hB2 := hb1.trans (hb2.mono hb1.size)
  have HS := Lib.hid (same_b A A' l c c' N HN.out (by omega) w2 (HR.out.below hb2) hr')
  have HR2 := Lib.hid (HR.out.below hb2)
  clear hr' hb1 hb2 HR hc'
  go_wp2_with fail
  refine HS.out.mono ?_
  rintro e w3 ⟨rfl, hb3⟩
  have hB3 := hB2.trans (hb3.mono hB2.size)
  have HR3 := Lib.hid (HR2.out.below hb3)
  clear hB2 hb3 HR2 HS
  have HBAD := Lib.hid (Bad_b P A ps (l.map (fun n : Nat => (n : Int))) cp c ps.length N rfl (by rw [List.length_map, HN.out]) (by unfold maxLen; omega) w3 (HP.out.below hB3) (rows_int HR3.out))
  have HBAD2 := Lib.hid (fun w' (hb : Below w3.heap.size w3 w') => rBad_b P A ps (l.map (fun n : Nat => (n : Int))) cp c ps.length N rfl (by rw [List.length_map, HN.out]) (by unfold maxLen; omega) hc w' ((HP.out.below hB3).below hb) ((rows_int HR3.out).below hb))
  generalize (Pl.bad ps (l.map (fun n : Nat => (n : Int)))).1 = b1 at *
  generalize (Pl.bad ps (l.map (fun n : Nat => (n : Int)))).2 = b2 at *
  generalize ps.length = m at *
  by_cases h0 : v3 = 0
  · subst h0
    have hs : (N : Int) = s := HC.out rfl
    subst hs
    go_wp2_with fail
    refine HBAD.out.mono ?_
    rintro e w4 ⟨rfl, hb4⟩
    have hB4 := hB3.trans (hb4.mono hB3.size)
    go_wp2_with fail
    refine (HBAD2.out _ hb4).mono ?_
    rintro e w5 ⟨rfl, hb5⟩
    have hB5 := hB4.trans (hb5.mono hB4.size)
    clear hb4 hb5
    go_wp2_with fail
    refine (H7.out _).mono ?_
    rintro e w6 ⟨rfl, hb6⟩
    have hB6 := hB5.trans (hb6.mono hB5.size)
    go_wp2
    go_ret
    exact ⟨rfl, hB6⟩
  · go_wp2_with fail
    refine HBAD.out.mono ?_
    rintro e w4 ⟨rfl, hb4⟩
    have hB4 := hB3.trans (hb4.mono hB3.size)
    go_wp2_with fail
    refine (HBAD2.out _ hb4).mono ?_
    rintro e w5 ⟨rfl, hb5⟩
    have hB5 := hB4.trans (hb5.mono hB4.size)
    clear hb4 hb5
    go_wp2_with fail
    refine (H7.out _).mono ?_
    rintro e w6 ⟨rfl, hb6⟩
    have hB6 := hB5.trans (hb6.mono hB5.size)
    go_wp2
    go_ret
    exact ⟨rfl, hB6⟩
end Go.Proofs.Ytfkhlglagokodaa
