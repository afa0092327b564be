import Derived.Test.YtflkhjicgojcbaaK5
import Derived.Test.YtflkhjicgojcbaaV6
import Derived.Test.YtflkhjicgojcbaaH6
namespace Go.Proofs.Ytflkhjicgojcbaa
open Go.RowKit Go.Shelf

theorem in_wid {p : Geo.XY} (h : Geo.In p) : Wid p := by
  obtain ⟨h1, h2, h3, h4⟩ := h
  exact ⟨⟨by omega, by omega⟩, by omega, by omega⟩
theorem allin_wid {l : List Geo.XY} (h : AllIn l) : ∀ p, p ∈ l → Wid p := fun p hp => by
  obtain ⟨i, hi, rfl⟩ := Geo.mem_X hp
  exact in_wid (h i hi)
/-- Hull: the hull, or the error -/
noncomputable def hullV (l : List Geo.XY) : List Geo.XY × Int :=
  if 200 < l.length then ([], 4) else if allInB l = false then ([], 2) else if (hullL l).length < 3 then ([], 2) else if 64 < (hullL l).length then ([], 4) else (hullL l, 0)

theorem hullV_limit {l : List Geo.XY} (h : 200 < l.length) : hullV l = ([], 4) := if_pos h
theorem hullV_arg {l : List Geo.XY} (h : ¬ 200 < l.length) (h2 : allInB l = false) : hullV l = ([], 2) := by unfold hullV; rw [if_neg h, if_pos h2]
theorem hullV_few {l : List Geo.XY} (h : ¬ 200 < l.length) (h2 : allInB l = true) (h3 : (hullL l).length < 3) : hullV l = ([], 2) := by unfold hullV; rw [if_neg h, if_neg (by rw [h2]; simp), if_pos h3]
theorem hullV_many {l : List Geo.XY} (h : ¬ 200 < l.length) (h2 : allInB l = true) (h3 : ¬ (hullL l).length < 3) (h4 : 64 < (hullL l).length) : hullV l = ([], 4) := by unfold hullV; rw [if_neg h, if_neg (by rw [h2]; simp), if_neg h3, if_pos h4]
theorem hullV_ok {l : List Geo.XY} (h : ¬ 200 < l.length) (h2 : allInB l = true) (h3 : ¬ (hullL l).length < 3) (h4 : ¬ 64 < (hullL l).length) : hullV l = (hullL l, 0) := by unfold hullV; rw [if_neg h, if_neg (by rw [h2]; simp), if_neg h3, if_neg h4]

theorem hullOf_any (A : Option Addr) (c : Nat) (l : List Geo.XY) (hl : l.length ≤ 200) (hw : AllIn l) (w : World) (hP : Pts w A l) (n : Nat) (hn : (hullL l).length = n) :
    Calls Try.prog 91 #[.slice A l.length c] w fun e w' => ∃ v, e = .returned v ∧ w'.ownsRow w.heap.size 38 2 v n (flat (hullL l)) ∧ Below w.heap.size w w' := by
  subst hn
  cases A with
  | none =>
    have he : l = [] := by
      rcases hP with h | ⟨b, o, h, _⟩
      · exact h
      · cases h
    subst he
    have hL : hullL [] = [] := by unfold hullL; simp [srt]
    rw [hL]
    refine (hullOf_none c w).mono fun e w' ⟨he, hw'⟩ => ?_
    subst hw'
    exact ⟨_, he, own_nil' _ _, Below.refl _ _⟩
  | some ad =>
    by_cases h3 : l.length < 3
    · have hL : hullL l = srt l := if_pos h3
      rw [hL, srt_len]
      exact hullOf_short ad c l h3 w hP
    · have hL : hullL l = Geo.hullP (srt l) := if_neg h3
      rw [hL]
      exact hullOf_long ad c l (by omega) hl (allin_wid hw) w hP

set_option maxRecDepth 100000 in
set_option maxHeartbeats 2000000 in
theorem dhull_any (A : Option Addr) (c : Nat) (l : List Geo.XY) (w : World) (hP : Pts w A l) (q : List Geo.XY) (err : Int) (hv : hullV l = (q, err)) (m : Nat) (hm : q.length = m) :
    Calls Try.prog 45 #[.slice A l.length c] w fun e w' => ∃ v, e = .returned (.tuple #[v, .int .i64 err]) ∧ w'.ownsRow w.heap.size 38 2 v m (flat q) ∧ Below w.heap.size w w' := by
  have HP := Lib.hid hP
  have HV := Lib.hid hv
  have HM := Lib.hid hm
  clear hP hv hm
  by_cases h200 : 200 < l.length
  · have hre := HV.out.symm.trans (hullV_limit h200)
    obtain ⟨rfl, rfl⟩ := Prod.mk.inj hre
    obtain rfl : m = 0 := HM.out.symm
    clear hre HV HM
    go_enter Try.func45, Try.ntmps45
    go_wp2_with fail
    go_ret2
    exact ⟨_, rfl, own_nil' _ _, Below.refl _ _⟩
  · have h200' : ¬ (200 : Int) < (l.length : Int) := by omega
    cases hin : allInB l with
    | false =>
      have hre := HV.out.symm.trans (hullV_arg h200 hin)
      obtain ⟨rfl, rfl⟩ := Prod.mk.inj hre
      obtain rfl : m = 0 := HM.out.symm
      have HIN := Lib.hid hin
      clear hre HV HM hin
      go_enter Try.func45, Try.ntmps45
      go_wp2_with fail
      refine (allin_b A l c _ HP.out (by omega) false HIN.out).mono ?_
      rintro e w1 ⟨rfl, hb1⟩
      go_wp2_with fail
      go_ret2
      exact ⟨_, rfl, own_nil' _ _, hb1⟩
    | true =>
      have hA : AllIn l := of_decide_eq_true hin
      have HIN := Lib.hid hin
      have HA := Lib.hid hA
      obtain ⟨n, hn⟩ : ∃ n, (hullL l).length = n := ⟨_, rfl⟩
      have hF : ¬ n < 3 → ¬ 64 < n → q = hullL l ∧ err = 0 := fun a b => by
        have := HV.out.symm.trans (hullV_ok h200 hin (by rw [hn]; exact a) (by rw [hn]; exact b))
        exact Prod.mk.inj this
      have hF2 : n < 3 → q = [] ∧ err = 2 := fun a => Prod.mk.inj (HV.out.symm.trans (hullV_few h200 hin (by rw [hn]; exact a)))
      have hF3 : ¬ n < 3 → 64 < n → q = [] ∧ err = 4 := fun a b => Prod.mk.inj (HV.out.symm.trans (hullV_many h200 hin (by rw [hn]; exact a) (by rw [hn]; exact b)))
      have HF := Lib.hid hF
      have HF2 := Lib.hid hF2
      have HF3 := Lib.hid hF3
      have HN := Lib.hid hn
      clear hin hA hn hF hF2 hF3 HV
      go_enter Try.func45, Try.ntmps45
      go_wp2_with fail
      refine (allin_b A l c _ HP.out (by omega) true HIN.out).mono ?_
      rintro e w1 ⟨rfl, hb1⟩
      have HP1 := Lib.hid (HP.out.below hb1)
      go_wp2_with fail
      refine (hullOf_any A c l (by omega) HA.out _ HP1.out n HN.out).mono ?_
      rintro e w2 ⟨v, rfl, hown2, hb2⟩
      have hB2 := hb1.trans (hb2.mono hb1.size)
      have HO := Lib.hid (hown2.mono hb1.size)
      obtain ⟨A2, c2, rfl⟩ : ∃ A2 c2, v = .slice A2 n c2 := by
        rcases hown2.2 with ⟨he, h0⟩ | ⟨g, cap, _, he, _⟩
        · exact ⟨none, 0, by rw [he, h0]⟩
        · exact ⟨_, _, he⟩
      clear hown2 hb1 hb2
      by_cases h3 : n < 3
      · obtain ⟨rfl, rfl⟩ := HF2.out h3
        obtain rfl : m = 0 := HM.out.symm
        clear HM
        go_wp2_with fail
        go_ret2
        exact ⟨_, rfl, own_nil' _ _, hB2⟩
      · by_cases h4 : 64 < n
        · obtain ⟨rfl, rfl⟩ := HF3.out h3 h4
          obtain rfl : m = 0 := HM.out.symm
          clear HM
          go_wp2_with fail
          go_ret2
          exact ⟨_, rfl, own_nil' _ _, hB2⟩
        · obtain ⟨rfl, rfl⟩ := HF.out h3 h4
          obtain rfl : m = n := HM.out.symm.trans HN.out
          go_wp2_with fail
          go_ret2
          exact ⟨_, rfl, HO.out, hB2⟩
end Go.Proofs.Ytflkhjicgojcbaa
namespace Go.Proofs.Ytflkhjicgojcbaa
open Go.RowKit Go.Shelf

theorem pick_same {l : List Geo.XY} {a : Geo.XY} (h : ∀ p, p ∈ l → p = a) : ∀ k, k ≤ l.length → Geo.pickK l a k = a := by
  intro k
  induction k with
  | zero => intro _; rfl
  | succ k ih =>
    intro hk
    rw [Geo.pickK, ih (by omega), if_neg]
    rintro ⟨h1, _⟩
    exact h1 (h _ (Geo.X_mem (by omega)))
/-- what the document's walk gives, and the hull -/
structure WrapQ (l q : List Geo.XY) : Prop where
  one : 1 ≤ q.length
  len : q.length ≤ l.length
  mem : ∀ p, p ∈ q → p ∈ l
  pick : ∀ i, i < q.length → Geo.pickK l (Geo.X q i) l.length = Geo.At q (i + 1)
  first : Geo.X (Geo.canon l) 0 = Geo.X q 0
  df : ∀ i, 0 < i → i < q.length → Geo.X q i ≠ Geo.X q 0
  st : ∀ i, i + 1 < q.length → Geo.At q (i + 1) ≠ Geo.X q i
  same : (q.length < 3 ∧ (hullL l).length < 3) ∨ (3 ≤ q.length ∧ hullL l = q)
theorem wrapq_of {l q : List Geo.XY} (h : Geo.WrapF l q) (hs : (q.length < 3 ∧ (hullL l).length < 3) ∨ (3 ≤ q.length ∧ hullL l = q)) : WrapQ l q :=
  ⟨by have := h.two; omega, h.len, h.mem, h.pick, h.first, h.df, fun i hi => h.st i (by omega), hs⟩
theorem canon_mem0 {l : List Geo.XY} (h0 : 0 < l.length) : Geo.X (Geo.canon l) 0 ∈ l := Geo.mem_canon.1 (Geo.X_mem (by rw [Geo.canon_length]; exact h0))
theorem wrapq_same {l : List Geo.XY} {m : Geo.XY} (h0 : 0 < l.length) (h : ∀ p, p ∈ l → p = m) (hs : (hullL l).length < 3) : WrapQ l [m] := by
  have hm : m ∈ l := by rw [← h _ (canon_mem0 h0)]; exact canon_mem0 h0
  refine ⟨by simp, by simp; omega, fun p hp => by simp at hp; rw [hp]; exact hm, fun i hi => ?_, h _ (canon_mem0 h0), fun i h0 hi => by simp at hi; omega, fun i hi => by simp at hi, .inl ⟨by simp, hs⟩⟩
  have : i = 0 := by simp at hi; exact hi
  subst this
  have e1 : Geo.At [m] (0 + 1) = m := by unfold Geo.At; simp
  rw [e1]
  exact pick_same h _ (Nat.le_refl _)
theorem hullL_short {l : List Geo.XY} (h : l.length < 3) : (hullL l).length < 3 := by unfold hullL; rw [if_pos h, srt_len]; exact h
theorem wrapQ (l : List Geo.XY) (h0 : 0 < l.length) : ∃ q, WrapQ l q := by
  by_cases h2 : 2 ≤ l.length
  · have hp := fun x => srt_mem l x
    rcases Geo.hull_cases (srt_rise l) (by rw [srt_len]; exact h2) with ⟨hall, hh⟩ | ⟨m, M, hon, hh⟩ | hull
    · refine ⟨[Geo.X (srt l) 0], wrapq_same h0 (fun p hp' => hall p ((hp p).2 hp')) ?_⟩
      by_cases h3 : l.length < 3
      · exact hullL_short h3
      · unfold hullL; rw [if_neg h3, hh]; simp
    · refine ⟨[m, M], wrapq_of (hon.congr hp).wrap (.inl ⟨by simp, ?_⟩)⟩
      by_cases h3 : l.length < 3
      · exact hullL_short h3
      · unfold hullL; rw [if_neg h3, hh]; simp
    · have hc := hull.congr hp
      have hw := hc.wrap hc.lo
      have h3 := hull.std.h3
      exact ⟨_, wrapq_of hw (.inr ⟨h3, if_neg (by have := hw.len; omega)⟩)⟩
  · have h1 : l.length = 1 := by omega
    match l, h1 with
    | [m], _ => exact ⟨[m], wrapq_same (by simp) (fun p hp => by simpa using hp) (hullL_short (by simp))⟩

theorem wrap_p (A : Option Addr) (c : Nat) (l q : List Geo.XY) (h0 : 0 < l.length) (hl : l.length ≤ 200) (hin : AllIn l) (hq : WrapQ l q) (w : World) (hP : Pts w A l) (n : Nat) (hn : q.length = n) :
    Calls Try.prog 90 #[.slice A l.length c] w fun e w' => ∃ v, e = .returned v ∧ w'.ownsRow w.heap.size 38 2 v n (flat q) ∧ Below w.heap.size w w' := by
  subst hn
  obtain ⟨b, o, rfl, hb, hc⟩ := pts_open hP h0
  exact wrap_gen b o c l q h0 (by omega) (allin_wid hin) hq.one (by have := hq.len; omega) hq.mem hq.pick hq.first hq.df hq.st w hb hc

set_option maxRecDepth 100000 in
set_option maxHeartbeats 2000000 in
theorem wrap_nil (A : Option Addr) (c : Nat) (w : World) : Calls Try.prog 90 #[.slice A 0 c] w fun e w' => e = .returned (.slice none 0 0) ∧ w' = w := by
  go_enter Try.func90, Try.ntmps90
  go_wp2_with fail
  go_ret
  exact ⟨rfl, rfl⟩

set_option maxRecDepth 100000 in
set_option maxHeartbeats 4000000 in
theorem rhull_any (A : Option Addr) (c : Nat) (l : List Geo.XY) (w : World) (hP : Pts w A l) (q : List Geo.XY) (err : Int) (hv : hullV l = (q, err)) (m : Nat) (hm : q.length = m) :
    Calls Try.prog 46 #[.slice A l.length c] w fun e w' => ∃ v, e = .returned (.tuple #[v, .int .i64 err]) ∧ w'.ownsRow w.heap.size 38 2 v m (flat q) ∧ Below w.heap.size w w' := by
  have HP := Lib.hid hP
  have HV := Lib.hid hv
  have HM := Lib.hid hm
  clear hP hv hm
  by_cases h200 : 200 < l.length
  · have hre := HV.out.symm.trans (hullV_limit h200)
    obtain ⟨rfl, rfl⟩ := Prod.mk.inj hre
    obtain rfl : m = 0 := HM.out.symm
    clear hre HV HM
    go_enter Try.func46, Try.ntmps46
    go_wp2_with fail
    go_ret2
    exact ⟨_, rfl, own_nil' _ _, Below.refl _ _⟩
  · have h200' : ¬ (200 : Int) < (l.length : Int) := by omega
    rcases Nat.eq_zero_or_pos l.length with h0 | h0
    · have hin : allInB l = true := decide_eq_true (fun j hj => by omega)
      have hre := HV.out.symm.trans (hullV_few h200 hin (hullL_short (by omega)))
      obtain ⟨rfl, rfl⟩ := Prod.mk.inj hre
      obtain rfl : m = 0 := HM.out.symm
      clear hre HV HM hin HP
      rw [h0]
      clear h0 h200 h200'
      go_enter Try.func46, Try.ntmps46
      go_wp2_with fail
      refine wp_loop_rounds 1 ?_
      rw [rounds_succ]
      go_wp2_with fail
      refine (wrap_nil A c _).mono ?_
      rintro e w1 ⟨rfl, rfl⟩
      go_wp2_with fail
      go_ret2
      exact ⟨_, rfl, own_nil' _ _, Below.refl _ _⟩
    · obtain ⟨b, off, rfl, hb, hc⟩ := pts_open HP.out h0
      have HC := Lib.hid hc
      clear hc
      have HLN : Hid ((hullL l).length = (hullL l).length) := Lib.hid rfl
      have HNI : Hid (¬ AllIn l → q = [] ∧ err = 2) := Lib.hid (fun hn => Prod.mk.inj (HV.out.symm.trans (hullV_arg h200 (decide_eq_false hn))))
      have HF : Hid (AllIn l → ¬ (hullL l).length < 3 → ¬ 64 < (hullL l).length → q = hullL l ∧ err = 0) := Lib.hid (fun hi a b => Prod.mk.inj (HV.out.symm.trans (hullV_ok h200 (decide_eq_true hi) a b)))
      have HF2 : Hid (AllIn l → (hullL l).length < 3 → q = [] ∧ err = 2) := Lib.hid (fun hi a => Prod.mk.inj (HV.out.symm.trans (hullV_few h200 (decide_eq_true hi) a)))
      have HF3 : Hid (AllIn l → ¬ (hullL l).length < 3 → 64 < (hullL l).length → q = [] ∧ err = 4) := Lib.hid (fun hi a b => Prod.mk.inj (HV.out.symm.trans (hullV_many h200 (decide_eq_true hi) a b)))
      clear HV HLN
      go_enter Try.func46, Try.ntmps46
      go_wp2_with fail
      go_loopw [12] (fun i wr => ∃ k : Nat, k ≤ l.length ∧ i = .int .i64 k ∧ (∀ j, j < k → Geo.In (Geo.X l j)) ∧ Below w.heap.size w wr) (fun i _ => l.length - (intOf i).toNat)
      case atStart => exact ⟨0, Nat.zero_le _, rfl, fun j hj => absurd hj (by omega), Below.refl _ _⟩
      case round =>
        obtain ⟨k, hk, rfl, hin, hB⟩ := hrel
        have HIN := Lib.hid hin
        clear hin
        by_cases hlt : k < l.length
        · have c1 : wr.cell? ⟨b, off + k * 2, none⟩ = some (.int .i64 (Geo.X l k).1) := (hB.cell (p := ⟨b, off + k * 2, none⟩) hb).trans (HC.out k hlt).1
          have c2 : wr.cell? ⟨b, off + k * 2 + 1, none⟩ = some (.int .i64 (Geo.X l k).2) := (hB.cell (p := ⟨b, off + k * 2 + 1, none⟩) hb).trans (HC.out k hlt).2
          cases hI : InF (Geo.X l k) with
          | false =>
            have hv : ¬ AllIn l := fun hv => by have := (InF_iff _).2 (hv k hlt); rw [hI] at this; cases this
            obtain ⟨rfl, rfl⟩ := HNI.out hv
            obtain rfl : m = 0 := HM.out.symm
            have HI := Lib.hid hI
            clear hI hv HM
            go_wp2_with (go_at_call 61; refine (in_no _ _ HI.out _).mono ?_; rintro e w' ⟨rfl, hb'⟩)
            go_ret2
            exact ⟨_, rfl, own_nil' _ _, ((hB.alloc hB.size _)).trans (hb'.mono (by simp; have := hB.size; omega))⟩
          | true =>
            have HI := Lib.hid hI
            clear hI
            go_wp2_with (go_at_call 61; refine (in_yes _ _ HI.out _).mono ?_; rintro e w' ⟨rfl, hb'⟩)
            go_roundw
            case rel => exact ⟨k + 1, by omega, by go_num, fun j hj => by
              by_cases e : j = k
              · subst e; exact (InF_iff _).1 HI.out
              · exact HIN.out j (by omega), (hB.alloc hB.size _).trans (hb'.mono (by simp; have := hB.size; omega))⟩
            case measure => simp [intOf]; omega
        · obtain rfl : k = l.length := by omega
          have hA : AllIn l := HIN.out
          obtain ⟨r, hr⟩ := wrapQ l h0
          obtain ⟨n, hn⟩ : ∃ n, r.length = n := ⟨_, rfl⟩
          have HN := Lib.hid hn
          have HR := Lib.hid hr
          have HA := Lib.hid hA
          have HPr := Lib.hid (HP.out.below hB)
          clear hn hr hA
          go_wp2_with fail
          refine (wrap_p (some ⟨b, off, none⟩) c l r h0 (by omega) HA.out HR.out _ HPr.out n HN.out).mono ?_
          rintro e w2 ⟨v, rfl, hown2, hb2⟩
          have hB2 := hB.trans (hb2.mono hB.size)
          have HO := Lib.hid (hown2.mono hB.size)
          obtain ⟨A2, c2, rfl⟩ : ∃ A2 c2, v = .slice A2 n c2 := by
            rcases hown2.2 with ⟨he, h0⟩ | ⟨g, cap, _, he, _⟩
            · exact ⟨none, 0, by rw [he, h0]⟩
            · exact ⟨_, _, he⟩
          clear hown2 hb2
          by_cases h3 : n < 3
          · obtain ⟨rfl, rfl⟩ := HF2.out HA.out (by
              rcases HR.out.same with ⟨_, h⟩ | ⟨h, _⟩
              · exact h
              · rw [HN.out] at h; omega)
            obtain rfl : m = 0 := HM.out.symm
            clear HM
            go_wp2_with fail
            go_ret2
            exact ⟨_, rfl, own_nil' _ _, hB2⟩
          · have hsame : hullL l = r := by
              rcases HR.out.same with ⟨h, _⟩ | ⟨_, h⟩
              · rw [HN.out] at h; omega
              · exact h
            have HSM := Lib.hid hsame
            clear hsame
            by_cases h4 : 64 < n
            · obtain ⟨rfl, rfl⟩ := HF3.out HA.out (by rw [HSM.out, HN.out]; exact h3) (by rw [HSM.out, HN.out]; exact h4)
              obtain rfl : m = 0 := HM.out.symm
              clear HM
              go_wp2_with fail
              go_ret2
              exact ⟨_, rfl, own_nil' _ _, hB2⟩
            · obtain ⟨rfl, rfl⟩ := HF.out HA.out (by rw [HSM.out, HN.out]; exact h3) (by rw [HSM.out, HN.out]; exact h4)
              obtain rfl : m = n := by rw [← HM.out, HSM.out, HN.out]
              go_wp2_with fail
              go_ret2
              exact ⟨_, rfl, by rw [HSM.out]; exact HO.out, hB2⟩
end Go.Proofs.Ytflkhjicgojcbaa
namespace Go.Proofs.Ytflkhjicgojcbaa
open Go.RowKit Go.Shelf

theorem hull_is {l : List Geo.XY} (h : ¬ (hullL l).length < 3) : Geo.IsHull l (hullL l) := by
  have h3 : ¬ l.length < 3 := fun hl => h (hullL_short hl)
  have e : hullL l = Geo.hullP (srt l) := if_neg h3
  rcases Geo.hull_cases (srt_rise l) (by rw [srt_len]; omega) with ⟨_, hh⟩ | ⟨m, M, _, hh⟩ | hull
  · rw [e, hh] at h; exact absurd (by simp) h
  · rw [e, hh] at h; exact absurd (by simp) h
  · rw [e]; exact hull.congr (fun x => srt_mem l x)
theorem hull_again {q : List Geo.XY} (hs : Geo.Std q) : hullL q = q := by
  have h3 := hs.h3
  have e : hullL q = Geo.hullP (srt q) := if_neg (by omega)
  have hd := hs.rg.dist h3
  have m0 : Geo.X q 0 ∈ q := Geo.X_mem (by omega)
  have m1 : Geo.X q 1 ∈ q := Geo.X_mem (by omega)
  have m2 : Geo.X q 2 ∈ q := Geo.X_mem (by omega)
  rcases Geo.hull_cases (srt_rise q) (by rw [srt_len]; omega) with ⟨hall, _⟩ | ⟨m, M, hon, _⟩ | hull
  · have := hd 0 1 (by omega) (by omega) ((hall _ ((srt_mem q _).2 m0)).trans (hall _ ((srt_mem q _).2 m1)).symm)
    omega
  · have hon' := hon.congr (fun x => srt_mem q x)
    have nz : Geo.sub M m ≠ (0, 0) := Geo.up_nz ((Geo.low_up m M).1 hon'.1)
    have hp := fun x (hx : x ∈ q) y (hy : y ∈ q) => Geo.par_zero nz (by have := (hon'.2.2.2 x hx).1; rw [Geo.Cross_cr] at this; exact this) (by have := (hon'.2.2.2 y hy).1; rw [Geo.Cross_cr] at this; exact this)
    have q1 := hp _ m0 _ m1
    have q2 := hp _ m0 _ m2
    have q3 := hp _ m1 _ m2
    have ht := hs.rg 0 2 (by omega) (by omega)
    rw [Geo.At_lt q (show 0 < q.length by omega), Geo.At_lt q (show 0 + 1 < q.length by omega), Geo.At_lt q (show 0 + 2 < q.length by omega)] at ht
    have : Geo.Cross (Geo.X q 0) (Geo.X q (0 + 1)) (Geo.X q (0 + 2)) = Geo.cr (Geo.sub (Geo.X q 0) m) (Geo.sub (Geo.X q 1) m) - Geo.cr (Geo.sub (Geo.X q 0) m) (Geo.sub (Geo.X q 2) m) + Geo.cr (Geo.sub (Geo.X q 1) m) (Geo.sub (Geo.X q 2) m) := by
      unfold Geo.Cross Geo.cr Geo.sub; grind
    omega
  · rw [e]
    exact Geo.hull_unique (hull.congr (fun x => srt_mem q x)) (Geo.hull_self hs)
theorem valid_rg {l : List Geo.XY} (h3 : 3 ≤ l.length) (h64 : l.length ≤ 64) (hin : ∀ p, p ∈ l → Geo.In p) (h : Geo.RG l) : Valid l :=
  ⟨h3, h64, fun _ hk => hin _ (Geo.X_mem hk), (Geo.rglob_iff h3).2 h⟩
/-- what the law asks of a hull -/
theorem hull_facts {l q : List Geo.XY} (h : hullV l = (q, 0)) : (3 ≤ l.length ∧ l.length ≤ 200) ∧ Valid q ∧ AllIn l ∧ hullV q = (q, 0) ∧ ∀ p, p ∈ l → holdB q p = true := by
  have h200 : ¬ 200 < l.length := fun hh => by
    have := (hullV_limit hh).symm.trans h
    cases (Prod.mk.inj this).2
  have hin : allInB l = true := by
    cases hi : allInB l with
    | true => rfl
    | false => cases (Prod.mk.inj ((hullV_arg h200 hi).symm.trans h)).2
  have h3 : ¬ (hullL l).length < 3 := fun hh => by cases (Prod.mk.inj ((hullV_few h200 hin hh).symm.trans h)).2
  have h4 : ¬ 64 < (hullL l).length := fun hh => by cases (Prod.mk.inj ((hullV_many h200 hin h3 hh).symm.trans h)).2
  have e : hullL l = q := (Prod.mk.inj ((hullV_ok h200 hin h3 h4).symm.trans h)).1
  have hA : AllIn l := of_decide_eq_true hin
  have his := hull_is h3
  have hl3 : 3 ≤ l.length := Nat.le_of_not_lt (fun hl => h3 (hullL_short hl))
  rw [e] at his h3 h4
  have hq : ∀ p, p ∈ q → Geo.In p := fun p hp => by
    obtain ⟨i, hi, rfl⟩ := Geo.mem_X (his.mem p hp)
    exact hA i hi
  have hv : Valid q := valid_rg (by omega) (by omega) hq his.std.rg
  have hq' : hullL q = q := hull_again his.std
  refine ⟨⟨hl3, by omega⟩, hv, hA, ?_, fun p hp => ?_⟩
  · have := hullV_ok (l := q) (by omega) (decide_eq_true (fun j hj => hq _ (Geo.X_mem hj))) (by rw [hq']; exact h3) (by rw [hq']; exact h4)
    rw [hq'] at this
    exact this
  · refine decide_eq_true (fun i hi => ?_)
    have := his.hold p hp i hi
    rw [Geo.Cross_cr]
    have ee : Geo.edge (Geo.At q) i = Geo.sub (Geo.X q ((i + 1) % q.length)) (Geo.X q i) := by
      unfold Geo.edge
      rw [Geo.At_lt q hi, Geo.At_X q (by omega)]
    rw [ee] at this
    exact this

theorem dholds_r (A : Option Addr) (q : List Geo.XY) (n c : Nat) (e : q.length = n) (p : Geo.XY) (hv : validB q = true) (hb : rngB 20000 p = true) (hh : holdB q p = true) (w : World) (hr : Pts w A q) :
    Calls Try.prog 37 #[.slice A n c, .agg #[.int .i64 p.1, .int .i64 p.2]] w fun e w' => e = .returned (.tuple #[.bool true, .int .i64 0]) ∧ Below w.heap.size w w' := by
  subst e
  refine (dholds_any A q c p w hr).mono fun e w' ⟨he, h⟩ => ⟨?_, h⟩
  rw [he, holdsV_ok hv hb, hh]
theorem same_r2 (A B : Option Addr) (a b : List Geo.XY) (n m c c' : Nat) (e1 : a.length = n) (e2 : b.length = m) (w : World) (ha : Pts w A a) (hb : Pts w B b) (hl : n ≤ 256) (r : Bool) (hr : eqB a b = r) :
    Calls Try.prog 21 #[.slice A n c, .slice B m c'] w fun e w' => e = .returned (.bool r) ∧ Below w.heap.size w w' := by
  subst e1 e2; exact same_any A B a b c c' w ha hb hl r hr
theorem dhull_r (A : Option Addr) (c n : Nat) (l : List Geo.XY) (e : l.length = n) (w : World) (hP : Pts w A l) (q : List Geo.XY) (err : Int) (hv : hullV l = (q, err)) (m : Nat) (hm : q.length = m) :
    Calls Try.prog 45 #[.slice A n c] w fun e w' => ∃ v, e = .returned (.tuple #[v, .int .i64 err]) ∧ w'.ownsRow w.heap.size 38 2 v m (flat q) ∧ Below w.heap.size w w' := by
  subst e; exact dhull_any A c l w hP q err hv m hm
theorem hullV_len {l q : List Geo.XY} {e : Int} (h : hullV l = (q, e)) : q.length ≤ 64 := by
  unfold hullV at h
  repeat' split at h
  all_goals (obtain ⟨rfl, rfl⟩ := Prod.mk.inj h)
  all_goals first | (simp; done) | omega
theorem pts_of_ret {W : World} {B n : Nat} {v : Value} {ps : List Geo.XY} (e : ps.length = n) (h : W.ownsRow B 38 2 v n (flat ps)) : ∃ A c, v = .slice A n c ∧ Pts W A ps ∧ (A = none → ps = []) := by
  subst e
  obtain ⟨A, c, he, hp, _⟩ := pts_of_owns' h
  refine ⟨A, c, he, hp, fun hA => ?_⟩
  rcases hp with h' | ⟨b, o, h', _⟩
  · exact h'
  · rw [hA] at h'; cases h'

set_option maxRecDepth 100000 in
set_option maxHeartbeats 4000000 in
theorem law_hulls (A : Option Addr) (l : List Geo.XY) (c : Nat) (w : World) (hP : Pts w A l) :
    Calls Try.prog 9 #[.slice A l.length c] w fun e w' => e = .returned (.bool true) ∧ Below w.heap.size w w' := by
  have HP := Lib.hid hP
  clear hP
  obtain ⟨⟨q, err⟩, hv⟩ : ∃ r, hullV l = r := ⟨_, rfl⟩
  obtain ⟨m, hm⟩ : ∃ m, q.length = m := ⟨_, rfl⟩
  have hm64 : m ≤ 64 := by rw [← hm]; exact hullV_len hv
  have HV := Lib.hid hv
  have HM := Lib.hid hm
  have HEQ : Hid (eqB q q = true) := Lib.hid (by unfold eqB; simp)
  have HE0 : Hid (err = 0 → (3 ≤ l.length ∧ l.length ≤ 200) ∧ Valid q ∧ AllIn l ∧ hullV q = (q, 0) ∧ ∀ p, p ∈ l → holdB q p = true) := Lib.hid (fun h => hull_facts (by rw [hv, h]))
  clear hv hm
  go_enter Try.func9, Try.ntmps9
  go_wp2_with fail
  refine (dhull_any A c l _ HP.out q err HV.out m HM.out).mono ?_
  rintro e w1 ⟨v1, rfl, hown1, hb1⟩
  obtain ⟨A1, c1, rfl, hp1, hn1⟩ := pts_of_ret HM.out hown1
  have HP1 := Lib.hid hp1
  have HPl := Lib.hid (HP.out.below hb1)
  clear hown1 hp1
  go_wp2_with fail
  refine (rhull_any A c l _ HPl.out q err HV.out m HM.out).mono ?_
  rintro e w2 ⟨v2, rfl, hown2, hb2⟩
  have hB2 := hb1.trans (hb2.mono hb1.size)
  obtain ⟨A2, c2, rfl, hp2, _⟩ := pts_of_ret HM.out hown2
  have HP2 := Lib.hid hp2
  have HP1' := Lib.hid (HP1.out.below hb2)
  clear hown2 hp2 hb1 hb2
  go_wp2_with fail
  refine (same_r2 A1 A2 q q m m c1 c2 HM.out HM.out _ HP1'.out HP2.out (by omega) true HEQ.out).mono ?_
  rintro e w3 ⟨rfl, hb3⟩
  have hB3 := hB2.trans (hb3.mono hB2.size)
  have HP3 := Lib.hid (HP1'.out.below hb3)
  have HPl3 := Lib.hid (HP.out.below hB3)
  clear hb3
  by_cases he : err = 0
  · subst he
    obtain ⟨⟨hl3, hl200⟩, hv, hA, hq, hh⟩ := HE0.out rfl
    have HVB : Hid (validB q = true) := Lib.hid (validB_true hv)
    have HA := Lib.hid hA
    have HQ := Lib.hid hq
    have HH := Lib.hid hh
    clear hv hA hq hh
    obtain ⟨b, off, rfl, hb, hc⟩ := pts_open HPl3.out (by omega)
    have HC := Lib.hid hc
    clear hc
    go_wp2_with fail
    obtain ⟨wo, rfl⟩ : ∃ wo, wo = w3 := ⟨_, rfl⟩
    go_loopw [37] (fun i wr => ∃ k : Nat, k ≤ l.length ∧ i = .int .i64 k ∧ Below wo.heap.size wo wr) (fun i _ => l.length - (intOf i).toNat)
    case atStart => exact ⟨0, Nat.zero_le _, rfl, Below.refl _ _⟩
    case round =>
      obtain ⟨k, hk, rfl, hB⟩ := hrel
      by_cases hlt : k < l.length
      · have c1 : wr.cell? ⟨b, off + k * 2, none⟩ = some (.int .i64 (Geo.X l k).1) := (hB.cell (p := ⟨b, off + k * 2, none⟩) hb).trans (HC.out k hlt).1
        have c2 : wr.cell? ⟨b, off + k * 2 + 1, none⟩ = some (.int .i64 (Geo.X l k).2) := (hB.cell (p := ⟨b, off + k * 2 + 1, none⟩) hb).trans (HC.out k hlt).2
        have hBa := hB.alloc hB.size (.cells #[.int .i64 (Geo.X l k).1, .int .i64 (Geo.X l k).2] 38)
        have HPa := Lib.hid (HP3.out.below hBa)
        have HR : Hid (rngB 20000 (Geo.X l k) = true) := Lib.hid (by
          obtain ⟨a1, a2, a3, a4⟩ := HA.out k hlt
          exact (rngB_iff _ _).2 ⟨by omega, by omega, by omega, by omega⟩)
        have HHk := Lib.hid (HH.out _ (Geo.X_mem hlt))
        generalize hp : Geo.X l k = p at *
        clear hp
        go_wp2_with fail
        refine (dholds_r A1 q m _ HM.out p HVB.out HR.out HHk.out _ HPa.out).mono ?_
        rintro e w5 ⟨rfl, hb5⟩
        have hB5 := hBa.trans (hb5.mono hBa.size)
        go_wp2_with fail
        go_roundw
        case rel => exact ⟨k + 1, by omega, by go_num, hB5⟩
        case measure => simp [intOf]; omega
      · obtain rfl : k = l.length := by omega
        have hBB := hB3.trans (hB.mono hB3.size)
        have HPa := Lib.hid (HP3.out.below hB)
        go_wp2_with fail
        refine (dhull_r A1 _ m q HM.out _ HPa.out q 0 HQ.out m HM.out).mono ?_
        rintro e w5 ⟨v5, rfl, hown5, hb5⟩
        have hB5 := hBB.trans (hb5.mono hBB.size)
        obtain ⟨A5, c5, rfl, hp5, _⟩ := pts_of_ret HM.out hown5
        have HP5 := Lib.hid hp5
        have HPb := Lib.hid (HPa.out.below hb5)
        clear hown5 hp5 hb5
        go_wp2_with fail
        refine (same_r2 A5 A1 q q m m _ _ HM.out HM.out _ HP5.out HPb.out (by omega) true HEQ.out).mono ?_
        rintro e w6 ⟨rfl, hb6⟩
        have hB6 := hB5.trans (hb6.mono hB5.size)
        go_wp2_with fail
        refine (awake_any _).mono ?_
        rintro e w7 ⟨rfl, hb7⟩
        go_wp2_with fail
        go_ret
        exact ⟨rfl, hB6.trans (hb7.mono hB6.size)⟩
  · have g1 : (err != 0) = true := by simpa using he
    clear he
    go_wp2_with fail
    refine (awake_any _).mono ?_
    rintro e w4 ⟨rfl, hb4⟩
    go_wp2_with fail
    go_ret
    exact ⟨rfl, hB3.trans (hb4.mono hB3.size)⟩
end Go.Proofs.Ytflkhjicgojcbaa
