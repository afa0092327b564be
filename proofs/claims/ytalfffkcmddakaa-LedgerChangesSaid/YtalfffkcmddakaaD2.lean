/- Settled of the program and of the document. -/
import Derived.Test.YtalfffkcmddakaaE7
import Derived.Test.YtalfffkcmddakaaQ4
import Derived.Test.YtalfffkcmddakaaD1
namespace Go.Proofs.Ytalfffkcmddakaa
open Go.RowKit Go.Shelf

abbrev zA : Array Value := #[.int .i64 0, .int .i64 0, .int .i64 0, .int .i64 0]
theorem st_cases (l : List Pl.En) (r d : Int) {y z s : Bool} {g : Pl.En} (hy : Pl.vB l = y) (hz : Pl.inB 0 d 100000 = z) (hs : (Pl.fnd l (1, r)).isSome = s) (hg : (Pl.fnd l (1, r)).getD Pl.z0 = g) :
    (Pl.stE l r d = if !y then 90 else if !z then 2 else if s then 0 else 5) ∧ (Pl.stV l r d = if Pl.stE l r d = 0 then Pl.stl l g d else false) := by
  unfold Pl.stV Pl.stE
  rw [hy, hz, hs, hg]
  exact ⟨rfl, rfl⟩
set_option maxRecDepth 100000 in
set_option maxHeartbeats 8000000 in
theorem settled2_b (A : Option Addr) (l : List Pl.En) (c n : Nat) (hn : l.length = n) (hm : n ≤ maxLen) (ref day : Int) (wf : (Lit.int .i64 ref).wf = true) (w : World) (hI : Rows enL 4 w A l) :
    Calls Try.prog 25 #[.slice A n c, .int .i64 ref, .int .i64 day] w fun e w' => e = .returned (.tuple #[.bool (Pl.stV l ref day), .int .i64 (Pl.stE l ref day)]) ∧ Below w.heap.size w w' := by
  obtain ⟨y, hy⟩ : ∃ y, Pl.vB l = y := ⟨_, rfl⟩
  obtain ⟨z, hz⟩ : ∃ z, Pl.inB 0 day 100000 = z := ⟨_, rfl⟩
  obtain ⟨s, hs⟩ : ∃ s, (Pl.fnd l (1, ref)).isSome = s := ⟨_, rfl⟩
  obtain ⟨g0, hg⟩ : ∃ g, (Pl.fnd l (1, ref)).getD Pl.z0 = g := ⟨_, rfl⟩
  have hc := st_cases l ref day hy hz hs hg
  have HC := Lib.hid hc
  have HV := Lib.hid (valid_any A l c n hn hm y hy w hI)
  have HD := Lib.hid (fun W => isday_b day z hz W)
  have HVb := Lib.hid (fun h : y = true => Pl.vb_iff.1 (hy.trans h))
  have HI := Lib.hid hI
  have HN := Lib.hid hn
  have HSS := Lib.hid hs
  have HGG := Lib.hid hg
  obtain ⟨q, hq⟩ : ∃ q, Pl.stl l g0 day = q := ⟨_, rfl⟩
  have HQ := Lib.hid hq
  rw [hq] at HC
  clear hc hy hz hs hg hq hI hn
  generalize Pl.stE l ref day = er at *
  generalize Pl.stV l ref day = vr at *
  cases y
  case false =>
    have h1 := HC.out.1
    have h2 := HC.out.2
    simp only [Bool.not_false, if_true] at h1
    subst h1
    simp at h2
    subst h2
    clear HC
    go_enter Try.func25, Try.ntmps25
    go_wp2_with fail
    refine HV.out.mono ?_
    rintro e w1 ⟨rfl, hb⟩
    go_wp2
    go_ret2
    exact ⟨rfl, hb⟩
  case true =>
  cases z
  case false =>
    have h1 := HC.out.1
    have h2 := HC.out.2
    simp at h1
    subst h1
    simp at h2
    subst h2
    clear HC
    go_enter Try.func25, Try.ntmps25
    go_wp2_with fail
    refine HV.out.mono ?_
    rintro e w1 ⟨rfl, hb⟩
    go_wp2_with fail
    refine (HD.out w1).mono ?_
    rintro e w2 ⟨rfl, rfl⟩
    go_wp2
    go_ret2
    exact ⟨rfl, hb⟩
  case true =>
  have HB := Lib.hid (HVb.out rfl)
  have HL : Hid (n ≤ 200) := Lib.hid (by rw [← HN.out]; exact HB.out.len)
  have HOK : Hid (OkN (1, ref)) := Lib.hid ⟨WalkArith.wf_i64 (by show _ ∧ _; simp), wf⟩
  clear HVb wf
  go_enter Try.func25, Try.ntmps25
  go_wp2_with fail
  refine HV.out.mono ?_
  rintro e w1 ⟨rfl, hb⟩
  go_wp2_with fail
  refine (HD.out w1).mono ?_
  rintro e w2 ⟨rfl, hw2⟩
  subst hw2
  clear HV HD
  go_wp2_with fail
  refine (byname_any A l c n HN.out (by have := HL.out; omega) (fun e he => okN_ve (HB.out.each e he)) _ (HI.out.below hb)).mono ?_
  rintro e w3 ⟨rfl, hM, hb3⟩
  rw [Pl.gm_id HB.out.dif] at hM
  have HB3 := Lib.hid (hb.trans (hb3.mono hb.size))
  have hlk := hM.look2 HOK.out
  rw [HSS.out, HGG.out] at hlk
  replace hlk : (Instr.lookup 70 (.map (some _)) (.agg #[.int .i64 1, .int .i64 ref]) true).run Try.prog w3 = .ok (.tuple #[.agg (enA g0), .bool s]) w3 := hlk
  have bz := Blk.new w3 24 zA
  clear hM hb3 hb
  cases s
  case false =>
    have h1 := HC.out.1
    have h2 := HC.out.2
    simp at h1
    subst h1
    simp at h2
    subst h2
    clear HC
    go_wp2_with (refine st_en (k := g0) bz rfl rfl _ _ rfl rfl rfl ?_; intro w9 bX9 hO9)
    have hb9 : Below w3.heap.size w3 w9 := ((Below.refl w3.heap.size w3).alloc (Nat.le_refl _) (.cells zA 24)).trans (hO9.below (Nat.le_refl _))
    have hB9 := HB3.out.trans (hb9.mono HB3.out.size)
    go_ret2
    exact ⟨rfl, hB9⟩
  case true =>
    have h1 := HC.out.1
    have h2 := HC.out.2
    simp at h1
    subst h1
    simp at h2
    subst h2
    clear HC
    go_wp2_with (first
      | (refine st_en (k := g0) bz rfl rfl _ _ rfl rfl rfl ?_
         intro w9 bX9 hO9
         have hr9 := bX9.range)
      | refine ldm_en hr9 rfl _ rfl rfl ?_)
    have hb9 : Below w3.heap.size w3 w9 := ((Below.refl w3.heap.size w3).alloc (Nat.le_refl _) (.cells zA 24)).trans (hO9.below (Nat.le_refl _))
    have hB9 := HB3.out.trans (hb9.mono HB3.out.size)
    refine (settled_b A l c n HN.out HL.out HB.out.each g0 day vr HQ.out w9 (HI.out.below hB9)).mono ?_
    rintro e w4 ⟨rfl, hb4⟩
    have hB4 := hB9.trans (hb4.mono hB9.size)
    clear hr9 bX9 hlk
    go_wp2
    go_ret2
    exact ⟨rfl, hB4⟩
set_option maxRecDepth 100000 in
set_option maxHeartbeats 8000000 in
theorem dsettled2_b (A : Option Addr) (l : List Pl.En) (c n : Nat) (hn : l.length = n) (hnc : n ≤ c) (hm : n ≤ maxLen) (ref day : Int) (w : World) (hI : Rows enL 4 w A l) :
    Calls Try.prog 26 #[.slice A n c, .int .i64 ref, .int .i64 day] w fun e w' => e = .returned (.tuple #[.bool (Pl.stV l ref day), .int .i64 (Pl.stE l ref day)]) ∧ Below w.heap.size w w' := by
  obtain ⟨y, hy⟩ : ∃ y, Pl.vB l = y := ⟨_, rfl⟩
  obtain ⟨z, hz⟩ : ∃ z, Pl.inB 0 day 100000 = z := ⟨_, rfl⟩
  obtain ⟨s, hs⟩ : ∃ s, (Pl.fnd l (1, ref)).isSome = s := ⟨_, rfl⟩
  obtain ⟨g0, hg⟩ : ∃ g, (Pl.fnd l (1, ref)).getD Pl.z0 = g := ⟨_, rfl⟩
  have hc := st_cases l ref day hy hz hs hg
  have HC := Lib.hid hc
  have HV := Lib.hid (dvalid_any A l c n hn hnc hm y hy w hI)
  have HZ := Lib.hid hz
  have HVb := Lib.hid (fun h : y = true => Pl.vb_iff.1 (hy.trans h))
  have HI := Lib.hid hI
  have HN := Lib.hid hn
  have HFD : Hid (∀ W, Below w.heap.size w W → Calls Try.prog 53 #[.slice A n c, .agg #[.int .i64 1, .int .i64 ref, .int .i64 0, .int .i64 0]] W fun e w' => e = .returned (.tuple #[.agg (enA g0), .bool s]) ∧ Below W.heap.size W w') := Lib.hid (fun W hb => by
    rw [← hs, ← hg]
    exact dfind_any A l c n hn hm ⟨1, ref, 0, 0⟩ W (hI.below hb))
  obtain ⟨q, hq⟩ : ∃ q, Pl.stl l g0 day = q := ⟨_, rfl⟩
  have HQ := Lib.hid hq
  rw [hq] at HC
  clear hc hy hz hs hg hq hI hn
  generalize Pl.stE l ref day = er at *
  generalize Pl.stV l ref day = vr at *
  cases y
  case false =>
    have h1 := HC.out.1
    have h2 := HC.out.2
    simp only [Bool.not_false, if_true] at h1
    subst h1
    simp at h2
    subst h2
    clear HC
    go_enter Try.func26, Try.ntmps26
    go_wp2_with fail
    refine HV.out.mono ?_
    rintro e w1 ⟨rfl, hb⟩
    go_wp2
    go_ret2
    exact ⟨rfl, hb⟩
  case true =>
  by_cases k1 : day < 0
  · have e1 : z = false := by rw [← HZ.out]; exact Pl.inB_false.2 (by omega)
    subst e1
    have h1 := HC.out.1
    have h2 := HC.out.2
    simp at h1
    subst h1
    simp at h2
    subst h2
    clear HC
    go_enter Try.func26, Try.ntmps26
    go_wp2_with fail
    refine HV.out.mono ?_
    rintro e w1 ⟨rfl, hb⟩
    go_wp2
    go_ret2
    exact ⟨rfl, hb⟩
  by_cases k2 : 100000 < day
  · have e1 : z = false := by rw [← HZ.out]; exact Pl.inB_false.2 (by omega)
    subst e1
    have h1 := HC.out.1
    have h2 := HC.out.2
    simp at h1
    subst h1
    simp at h2
    subst h2
    clear HC
    go_enter Try.func26, Try.ntmps26
    go_wp2_with fail
    refine HV.out.mono ?_
    rintro e w1 ⟨rfl, hb⟩
    go_wp2
    go_ret2
    exact ⟨rfl, hb⟩
  have e1 : z = true := by rw [← HZ.out]; exact Pl.inB_true.2 (by omega)
  subst e1
  have HB := Lib.hid (HVb.out rfl)
  have HL : Hid (n ≤ 200) := Lib.hid (by rw [← HN.out]; exact HB.out.len)
  clear HVb HZ
  go_enter Try.func26, Try.ntmps26
  go_wp2_with fail
  refine HV.out.mono ?_
  rintro e w1 ⟨rfl, hb⟩
  clear HV
  go_wp2_with fail
  refine (HFD.out _ hb).mono ?_
  rintro e w3 ⟨rfl, hb3⟩
  have HB3 := Lib.hid (hb.trans (hb3.mono hb.size))
  have bz := Blk.new w3 24 zA
  clear hb3 hb HFD
  cases s
  case false =>
    have h1 := HC.out.1
    have h2 := HC.out.2
    simp at h1
    subst h1
    simp at h2
    subst h2
    clear HC
    go_wp2_with (refine st_en (k := g0) bz rfl rfl _ _ rfl rfl rfl ?_; intro w9 bX9 hO9)
    have hb9 : Below w3.heap.size w3 w9 := ((Below.refl w3.heap.size w3).alloc (Nat.le_refl _) (.cells zA 24)).trans (hO9.below (Nat.le_refl _))
    have hB9 := HB3.out.trans (hb9.mono HB3.out.size)
    go_ret2
    exact ⟨rfl, hB9⟩
  case true =>
    have h1 := HC.out.1
    have h2 := HC.out.2
    simp at h1
    subst h1
    simp at h2
    subst h2
    clear HC
    go_wp2_with (first
      | (refine st_en (k := g0) bz rfl rfl _ _ rfl rfl rfl ?_
         intro w9 bX9 hO9
         have hr9 := bX9.range)
      | refine ldm_en hr9 rfl _ rfl rfl ?_)
    have hb9 : Below w3.heap.size w3 w9 := ((Below.refl w3.heap.size w3).alloc (Nat.le_refl _) (.cells zA 24)).trans (hO9.below (Nat.le_refl _))
    have hB9 := HB3.out.trans (hb9.mono HB3.out.size)
    refine (dsettled_b A l c n HN.out HL.out HB.out.each g0 day vr HQ.out w9 (HI.out.below hB9)).mono ?_
    rintro e w4 ⟨rfl, hb4⟩
    have hB4 := hB9.trans (hb4.mono hB9.size)
    clear hr9 bX9
    go_wp2
    go_ret2
    exact ⟨rfl, hB4⟩
end Go.Proofs.Ytalfffkcmddakaa
