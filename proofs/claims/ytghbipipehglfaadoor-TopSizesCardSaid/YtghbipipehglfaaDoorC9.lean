/- The program's fewest and Cover. -/
import Derived.Test.YtghbipipehglfaaDoorC6
namespace Go.Proofs.YtghbipipehglfaaDoor
open Go.RowKit Go.Shelf

/-- whether a choice of sizes covers all heads -/
def cvC (ss : List Pl.Sz) (hs : List Pl.Hd) (k : Nat) : Bool := Pl.cv ss hs (Pl.els k ss.length)
/-- the best choice -/
def fwB (ss : List Pl.Sz) (hs : List Pl.Hd) : Nat := Pl.fwk (cvC ss hs) (2 ^ ss.length - 1) (2 ^ ss.length - 1)
theorem pow12 {n : Nat} (hn : n ≤ 12) : 1 ≤ 2 ^ n ∧ 2 ^ n ≤ 4096 := ⟨Nat.two_pow_pos n, Nat.pow_le_pow_right (n := 2) (by omega) hn⟩
theorem fwB_lt (ss : List Pl.Sz) (hs : List Pl.Hd) (hn : ss.length ≤ 12) : fwB ss hs < 2 ^ ss.length := by
  have h := Pl.fwk_le (cvC ss hs) (2 ^ ss.length - 1) (2 ^ ss.length - 1) (Nat.le_refl _)
  have := pow12 hn
  unfold fwB
  omega

set_option maxRecDepth 100000 in
set_option maxHeartbeats 4000000 in
theorem fewest_any (g : Nat) (ss : List Pl.Sz) (hs : List Pl.Hd) (c : Nat) (hn : ss.length ≤ 12) (hh : hs.length ≤ 40) (w : World) (hT : Tab w) (hst : StA w g ss.length (sets ss hs)) :
    Calls Tryd.prog 61 #[.slice (some ⟨g, 0, none⟩) ss.length c, .int .u64 (2 ^ hs.length - 1 : Nat)] w fun e w' => e = .returned (.int .u64 (fwB ss hs : Nat)) ∧ Below w.heap.size w w' := by
  obtain ⟨hp1, hp2⟩ := pow12 hn
  have HO := Lib.hid (fun w => first_any ss.length (by omega) w)
  have HF := isF_sets ss hs
  have HU := Lib.hid (fun (k : Nat) (hk : k < 2 ^ ss.length) (w' : World) (hb : Below w.heap.size w w') => union_any g ss.length c k (sets ss hs) (by omega) hk (sets_40 ss hs hh) w' (hT.below hb) (hst.below hb hst.lt))
  have HE := Lib.hid (fun (k : Nat) (hk : k < 2 ^ ss.length) => (by
    rw [show cvC ss hs k = Pl.cv ss hs (Pl.els k 64) by unfold cvC; rw [Pl.els_lt (n := ss.length) hk (show ss.length ≤ 64 by omega)]]
    have h3 := HF.cover (Pl.els k 64)
    have h4 := HF.unl (Pl.els k 64)
    rw [Bool.eq_iff_iff, beq_iff_eq, ← h3]
    omega : ((((Pl.unl (sets ss hs) (Pl.els k 64) : Nat) : Int) == ((2 ^ hs.length - 1 : Nat) : Int)) = cvC ss hs k)))
  have HW : Hid (fwB ss hs = Pl.fwk (cvC ss hs) (2 ^ ss.length - 1) (2 ^ ss.length - 1)) := Lib.hid rfl
  have HS : Hid (∀ k, Pl.fwk (cvC ss hs) (2 ^ ss.length - 1) (k + 1) = if (cvC ss hs k && Pl.prec k (Pl.fwk (cvC ss hs) (2 ^ ss.length - 1) k)) = true then k else Pl.fwk (cvC ss hs) (2 ^ ss.length - 1) k) := Lib.hid fun _ => rfl
  have HL := Lib.hid (fun k hk => Pl.fwk_le (cvC ss hs) (2 ^ ss.length - 1) k hk)
  have HZ : Hid (Pl.fwk (cvC ss hs) (2 ^ ss.length - 1) 0 = 2 ^ ss.length - 1) := Lib.hid rfl
  have hk1 : ∀ k, k < 2 ^ ss.length - 1 → k < 2 ^ ss.length := fun k hk => by omega
  have HK := Lib.hid hk1
  have hM : 2 ^ ss.length - 1 ≤ 4095 := by omega
  clear hst hT hk1 hp1 hp2 HF
  generalize Pl.fwk (cvC ss hs) (2 ^ ss.length - 1) = f at *
  generalize fwB ss hs = FW at *
  generalize cvC ss hs = C at *
  generalize 2 ^ ss.length - 1 = M at *
  generalize 2 ^ hs.length - 1 = H at *
  go_enter Tryd.func61, Tryd.ntmps61
  go_wp2_with (go_at_call 54; refine (HO.out _).mono ?_; rintro e w' ⟨rfl, hw'⟩; obtain rfl : w = w' := hw'.symm)
  go_loopw [6, 7, 13] (fun b _ i wr => ∃ k : Nat, k ≤ M ∧ i = .int .u64 k ∧ b = .int .u64 (f k : Nat) ∧ Below w.heap.size w wr) (fun _ _ i _ => M - (intOf i).toNat)
  case atStart => exact ⟨0, Nat.zero_le _, rfl, by rw [HZ.out], Below.refl _ _⟩
  case round =>
    obtain ⟨k, hk, rfl, rfl, hB⟩ := hrel
    obtain ⟨wo, rfl⟩ : ∃ wo, wo = wr := ⟨_, rfl⟩
    by_cases hlt : k < M
    · have hfk := HL.out k hk
      have hkp := HK.out k hlt
      have HUk := Lib.hid (HU.out k hkp wo hB)
      have hE := HE.out k hkp
      have hSk := Lib.hid (HS.out k)
      generalize Pl.unl (sets ss hs) (Pl.els k 64) = U at *
      have HP := Lib.hid (fun w => precedes_any k (f k) (by omega) (by omega) w)
      generalize f k = b at *
      clear hkp
      cases hc : C k with
      | false =>
        rw [hc] at hE
        have HN : Hid (f (k + 1) = b) := Lib.hid (by rw [hSk.out, hc]; rfl)
        clear hSk hc
        go_wp2_with (go_at_call 53; refine HUk.out.mono ?_; rintro e w1 ⟨rfl, hb1⟩)
        go_roundw
        case rel => exact ⟨k + 1, by omega, by go_num, by rw [HN.out], hB.trans (hb1.mono hB.size)⟩
        case measure => simp [intOf]; omega
      | true =>
        rw [hc] at hE
        cases hp : Pl.prec k b with
        | false =>
          rw [hp] at HP
          have HN : Hid (f (k + 1) = b) := Lib.hid (by rw [hSk.out, hc, hp]; rfl)
          clear hSk hc hp
          go_wp2_with (first | (go_at_call 53; refine HUk.out.mono ?_; rintro e w1 ⟨rfl, hb1⟩) | (go_at_call 86; refine (HP.out _).mono ?_; rintro e w' ⟨rfl, hw'⟩; obtain rfl : w1 = w' := hw'.symm))
          go_roundw
          case rel => exact ⟨k + 1, by omega, by go_num, by rw [HN.out], hB.trans (hb1.mono hB.size)⟩
          case measure => simp [intOf]; omega
        | true =>
          rw [hp] at HP
          have HN : Hid (f (k + 1) = k) := Lib.hid (by rw [hSk.out, hc, hp]; rfl)
          clear hSk hc hp
          go_wp2_with (first | (go_at_call 53; refine HUk.out.mono ?_; rintro e w1 ⟨rfl, hb1⟩) | (go_at_call 86; refine (HP.out _).mono ?_; rintro e w' ⟨rfl, hw'⟩; obtain rfl : w1 = w' := hw'.symm))
          go_roundw
          case rel => exact ⟨k + 1, by omega, by go_num, by rw [HN.out], hB.trans (hb1.mono hB.size)⟩
          case measure => simp [intOf]; omega
    · obtain rfl : k = M := by omega
      have HN : Hid (f k = FW) := Lib.hid HW.out.symm
      go_wp2
      go_ret
      exact ⟨by rw [← HN.out]; rfl, hB⟩

/-- what Cover gives -/
def coE (ss : List Pl.Sz) (hs : List Pl.Hd) : Int := if bothE ss hs = 0 then (if 12 < ss.length then 4 else if Pl.cv ss hs (List.range ss.length) = true then 0 else 32) else bothE ss hs
def coL (ss : List Pl.Sz) (hs : List Pl.Hd) : List Nat := if coE ss hs = 0 then Pl.els (fwB ss hs) ss.length else []
theorem coE_four (ss : List Pl.Sz) (hs : List Pl.Hd) : (bothE ss hs ≠ 0 ∧ coE ss hs = bothE ss hs ∧ coL ss hs = []) ∨ (bothE ss hs = 0 ∧ 12 < ss.length ∧ coE ss hs = 4 ∧ coL ss hs = []) ∨
    (bothE ss hs = 0 ∧ ss.length ≤ 12 ∧ Pl.cv ss hs (List.range ss.length) = false ∧ coE ss hs = 32 ∧ coL ss hs = []) ∨
    (bothE ss hs = 0 ∧ ss.length ≤ 12 ∧ Pl.cv ss hs (List.range ss.length) = true ∧ coE ss hs = 0 ∧ coL ss hs = Pl.els (fwB ss hs) ss.length) := by
  by_cases h : bothE ss hs = 0
  · by_cases h2 : 12 < ss.length
    · have e : coE ss hs = 4 := by unfold coE; rw [if_pos h, if_pos h2]
      exact .inr (.inl ⟨h, h2, e, if_neg (by rw [e]; decide)⟩)
    · cases h3 : Pl.cv ss hs (List.range ss.length) with
      | false =>
        have e : coE ss hs = 32 := by unfold coE; rw [if_pos h, if_neg h2, h3]; rfl
        exact .inr (.inr (.inl ⟨h, by omega, rfl, e, if_neg (by rw [e]; decide)⟩))
      | true =>
        have e : coE ss hs = 0 := by unfold coE; rw [if_pos h, if_neg h2, h3]; rfl
        exact .inr (.inr (.inr ⟨h, by omega, rfl, e, if_pos e⟩))
  · have e : coE ss hs = bothE ss hs := if_neg h
    exact .inl ⟨h, e, if_neg (by rw [e]; exact h)⟩

set_option maxRecDepth 100000 in
set_option maxHeartbeats 4000000 in
theorem Cover_any (A B : Option Addr) (ss : List Pl.Sz) (hs : List Pl.Hd) (c d : Nat) (w : World) (hT : Tab w) (hI : Szs w A ss) (hJ : Hds w B hs) :
    Calls Tryd.prog 23 #[.slice A ss.length c, .slice B hs.length d] w fun e w' => ∃ v, e = .returned (.tuple #[v, .int .i64 (coE ss hs)]) ∧ w'.ownsRow w.heap.size 3 1 v (nts (coL ss hs)).length (ints (nts (coL ss hs))) ∧ Below w.heap.size w w' := by
  have H1 := Lib.hid (fitted_any A B ss hs c d w hI hJ)
  rcases coE_four ss hs with ⟨hb, he, hl⟩ | ⟨hb, h12, he, hl⟩ | ⟨hb, h12, hc, he, hl⟩ | ⟨hb, h12, hc, he, hl⟩
  · rw [he, hl]
    have hne : (bothE ss hs != 0) = true := bne_iff_ne.2 hb
    have HB := Lib.hid hb
    clear hb he hl
    generalize bothE ss hs = E at *
    go_enter Tryd.func23, Tryd.ntmps23
    go_wp2_with (go_at_call 39; refine H1.out.mono ?_; rintro e w1 ⟨v, rfl, _, hv, hb1⟩; obtain rfl := hv HB.out)
    go_ret2
    exact ⟨_, rfl, World.ownsRow_nil _ _ _ _, hb1⟩
  · obtain ⟨⟨s1, _⟩, _⟩ := bothE_ok hb
    rw [he, hl]
    rw [hb] at H1
    clear hb he hl hI hJ
    go_enter Tryd.func23, Tryd.ntmps23
    go_wp2_with (go_at_call 39; refine H1.out.mono ?_; rintro e w1 ⟨v, rfl, hv, _, hb1⟩; obtain ⟨g, rfl, hg, hst⟩ := hv rfl)
    go_ret2
    exact ⟨_, rfl, World.ownsRow_nil _ _ _ _, hb1⟩
  · obtain ⟨_, ⟨h1, _⟩⟩ := bothE_ok hb
    rw [he, hl]
    rw [hb] at H1
    have HO := Lib.hid (fun (g : Nat) (w' : World) (hbb : Below w.heap.size w w') (hst : StA w' g ss.length (sets ss hs)) => isopen_any g ss hs (sets ss hs) ss.length d B (by omega) h1 (isF_sets ss hs) w' (hT.below hbb) hst)
    rw [hc] at HO
    clear hb he hl hI hJ hc hT
    go_enter Tryd.func23, Tryd.ntmps23
    go_wp2_with (first | (go_at_call 39; refine H1.out.mono ?_; rintro e w1 ⟨v, rfl, hv, _, hb1⟩; obtain ⟨g, rfl, hg, hst⟩ := hv rfl) | (go_at_call 60; refine (HO.out g _ hb1 hst).mono ?_; rintro e w2 ⟨rfl, hb2⟩))
    go_ret2
    exact ⟨_, rfl, World.ownsRow_nil _ _ _ _, hb1.trans (hb2.mono hb1.size)⟩
  · obtain ⟨_, ⟨h1, _⟩⟩ := bothE_ok hb
    rw [he, hl]
    rw [hb] at H1
    have HO := Lib.hid (fun (g : Nat) (w' : World) (hbb : Below w.heap.size w w') (hst : StA w' g ss.length (sets ss hs)) => isopen_any g ss hs (sets ss hs) ss.length d B (by omega) h1 (isF_sets ss hs) w' (hT.below hbb) hst)
    rw [hc] at HO
    have HW := Lib.hid (fun (g : Nat) (w' : World) (hbb : Below w.heap.size w w') (hst : StA w' g ss.length (sets ss hs)) => fewest_any g ss hs ss.length h12 h1 w' (hT.below hbb) hst)
    have hlt := fwB_lt ss hs h12
    have hp := pow12 h12
    have hLi := Lib.hid (fun (w' : World) (hbb : Below w.heap.size w w') => list_any (fwB ss hs) (by omega) w' (hT.below hbb))
    rw [Pl.els_lt hlt (show ss.length ≤ 64 by omega)] at hLi
    have HF := Lib.hid (fun w => first_any hs.length (by omega) w)
    clear hb he hl hI hJ hc hT hlt hp
    generalize Pl.els (fwB ss hs) ss.length = L at *
    generalize fwB ss hs = FW at *
    generalize 2 ^ hs.length - 1 = H at *
    go_enter Tryd.func23, Tryd.ntmps23
    go_wp2_with (first
      | (go_at_call 39; refine H1.out.mono ?_; rintro e w1 ⟨v, rfl, hv, _, hb1⟩; obtain ⟨g, rfl, hg, hst⟩ := hv rfl)
      | (go_at_call 60; refine (HO.out g _ hb1 hst).mono ?_; rintro e w2 ⟨rfl, hb2⟩; have hB2 := hb1.trans (hb2.mono hb1.size); have hst2 := hst.below hb2 hst.lt)
      | (go_at_call 54; refine (HF.out _).mono ?_; rintro e w' ⟨rfl, hw'⟩; obtain rfl : w2 = w' := hw'.symm)
      | (go_at_call 61; refine (HW.out g _ hB2 hst2).mono ?_; rintro e w3 ⟨rfl, hb3⟩; have hB3 := hB2.trans (hb3.mono hB2.size))
      | (go_at_call 40; refine (hLi.out _ hB3).mono ?_; rintro e w4 ⟨vl, rfl, hrow, hb4⟩))
    go_ret2
    exact ⟨_, rfl, own_mono hrow hB3.size, hB3.trans (hb4.mono hB3.size)⟩
end Go.Proofs.YtghbipipehglfaaDoor
