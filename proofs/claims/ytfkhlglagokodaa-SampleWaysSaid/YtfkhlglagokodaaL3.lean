/- SampleWays. -/
import Derived.Test.YtfkhlglagokodaaA6
import Derived.Test.YtfkhlglagokodaaC1
namespace Go.Proofs.Ytfkhlglagokodaa
open Go.RowKit Go.Shelf

theorem Wl_len (L b s : Int) : (Pl.Wl L b s).length ≤ 600 := by
  cases h : Pl.wok L b s with
  | false => unfold Pl.Wl; rw [h]; exact Nat.zero_le _
  | true =>
    obtain ⟨l, c, t, rfl, rfl, rfl, q1, q2, q3, e1, e2⟩ := Pl.wok_ok h
    rw [e2, Pl.wl_len]
    omega

set_option maxRecDepth 100000 in
set_option maxHeartbeats 4000000 in
theorem law_ways (n k L b s : Int) (w : World) :
    Calls Try.prog 6 #[.int .i64 n, .int .i64 k, .int .i64 L, .int .i64 b, .int .i64 s] w fun e w' => e = .returned (.bool true) ∧ Below w.heap.size w w' := by
  have H1 := Lib.hid (fun (w' : World) => Choose_b n k w')
  have H2 := Lib.hid (fun (w' : World) => rChoose_b n k w')
  have H3 := Lib.hid (fun (w' : World) => Ways_b L b s w')
  have H4 := Lib.hid (fun (w' : World) => rWays_b L b s w')
  have H7 := Lib.hid awake_any
  have HL := Lib.hid (Wl_len L b s)
  generalize Pl.Hv n k = v1 at *
  generalize Pl.He n = v2 at *
  generalize Pl.We L b s = v3 at *
  generalize Pl.Wl L b s = l at *
  obtain ⟨N, hN⟩ : ∃ N, l.length = N := ⟨_, rfl⟩
  have HN := Lib.hid hN
  rw [hN] at H3 H4 HL
  clear hN
  go_enter Try.func6, Try.ntmps6
  go_wp2_with fail
  refine (H1.out _).mono ?_
  rintro e w1 ⟨rfl, hb1⟩
  go_wp2_with fail
  refine (H2.out _).mono ?_
  rintro e w2 ⟨rfl, hb2⟩
  have hB2 := hb1.trans (hb2.mono hb1.size)
  clear hb1 hb2
  go_wp2_with fail
  refine (H3.out _).mono ?_
  rintro e w3 ⟨A, c, rfl, hr, hb3⟩
  have hB3 := hB2.trans (hb3.mono hB2.size)
  have HR := Lib.hid hr
  clear hr hb3 hB2
  go_wp2_with fail
  refine (H4.out _).mono ?_
  rintro e w4 ⟨A', c', rfl, hr', hb4⟩
  have hB4 := hB3.trans (hb4.mono hB3.size)
  have HS := Lib.hid (fun w' (hb : Below w4.heap.size w4 w') => same_b A A' l c c' N HN.out HL.out w' ((HR.out.below hb4).below hb) (hr'.below hb))
  clear hr' hb4 hB3
  go_wp2_with fail
  refine (HS.out _ (Below.refl _ _)).mono ?_
  rintro e w5 ⟨rfl, hb5⟩
  have hB5 := hB4.trans (hb5.mono hB4.size)
  go_wp2_with fail
  refine (H7.out _).mono ?_
  rintro e w6 ⟨rfl, hb6⟩
  have hB6 := hB5.trans (hb6.mono hB5.size)
  go_wp2
  go_ret
  exact ⟨rfl, hB6⟩
end Go.Proofs.Ytfkhlglagokodaa
