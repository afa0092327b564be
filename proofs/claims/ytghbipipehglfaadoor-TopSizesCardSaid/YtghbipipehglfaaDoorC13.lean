/- Greedy, the program's and the document's. -/
import Derived.Test.YtghbipipehglfaaDoorC11
import Derived.Test.YtghbipipehglfaaDoorC12
namespace Go.Proofs.YtghbipipehglfaaDoor
open Go.RowKit Go.Shelf

/-- what Greedy gives -/
def grE (ss : List Pl.Sz) (hs : List Pl.Hd) : Int := if bothE ss hs = 0 then (if Pl.cv ss hs (List.range ss.length) = true then 0 else 32) else bothE ss hs
def grL (ss : List Pl.Sz) (hs : List Pl.Hd) : List Nat := if grE ss hs = 0 then Pl.gr (sets ss hs) ss.length 40 (2 ^ hs.length - 1) else []
theorem grE_three (ss : List Pl.Sz) (hs : List Pl.Hd) : (bothE ss hs ≠ 0 ∧ grE ss hs = bothE ss hs ∧ grL ss hs = []) ∨
    (bothE ss hs = 0 ∧ Pl.cv ss hs (List.range ss.length) = false ∧ grE ss hs = 32 ∧ grL ss hs = []) ∨
    (bothE ss hs = 0 ∧ Pl.cv ss hs (List.range ss.length) = true ∧ grE ss hs = 0 ∧ grL ss hs = Pl.gr (sets ss hs) ss.length 40 (2 ^ hs.length - 1)) := by
  by_cases h : bothE ss hs = 0
  · cases h3 : Pl.cv ss hs (List.range ss.length) with
    | false =>
      have e : grE ss hs = 32 := by unfold grE; rw [if_pos h, h3]; rfl
      exact .inr (.inl ⟨h, rfl, e, if_neg (by rw [e]; decide)⟩)
    | true =>
      have e : grE ss hs = 0 := by unfold grE; rw [if_pos h, h3]; rfl
      exact .inr (.inr ⟨h, rfl, e, if_pos e⟩)
  · have e : grE ss hs = bothE ss hs := if_neg h
    exact .inl ⟨h, e, if_neg (by rw [e]; exact h)⟩
theorem pow40 {n : Nat} (hn : n ≤ 40) : 2 ^ n - 1 < 2 ^ 40 := by
  have h1 := Nat.two_pow_pos n
  have h2 : 2 ^ n ≤ 2 ^ 40 := Nat.pow_le_pow_right (n := 2) (by omega) hn
  omega

set_option maxRecDepth 100000 in
set_option maxHeartbeats 4000000 in
theorem Greedy_any (A B : Option Addr) (ss : List Pl.Sz) (hs : List Pl.Hd) (c d : Nat) (w : World) (hT : Tab w) (hI : Szs w A ss) (hJ : Hds w B hs) :
    Calls Tryd.prog 25 #[.slice A ss.length c, .slice B hs.length d] w fun e w' => ∃ v, e = .returned (.tuple #[v, .int .i64 (grE ss hs)]) ∧ w'.ownsRow w.heap.size 3 1 v (nts (grL ss hs)).length (ints (nts (grL ss hs))) ∧ Below w.heap.size w w' := by
  have H1 := Lib.hid (fitted_any A B ss hs c d w hI hJ)
  rcases grE_three ss hs with ⟨hb, he, hl⟩ | ⟨hb, hc, he, hl⟩ | ⟨hb, hc, he, hl⟩
  · rw [he, hl]
    have hne : (bothE ss hs != 0) = true := bne_iff_ne.2 hb
    have HB := Lib.hid hb
    clear hb he hl
    generalize bothE ss hs = E at *
    go_enter Tryd.func25, Tryd.ntmps25
    go_wp2_with (go_at_call 39; refine H1.out.mono ?_; rintro e w1 ⟨v, rfl, _, hv, hb1⟩; obtain rfl := hv HB.out)
    go_ret2
    exact ⟨_, rfl, World.ownsRow_nil _ _ _ _, hb1⟩
  · obtain ⟨⟨s1, _⟩, ⟨h1, _⟩⟩ := bothE_ok hb
    rw [he, hl]
    rw [hb] at H1
    have HO := Lib.hid (fun (g : Nat) (w' : World) (hbb : Below w.heap.size w w') (hst : StA w' g ss.length (sets ss hs)) => isopen_any g ss hs (sets ss hs) ss.length d B (by omega) h1 (isF_sets ss hs) w' (hT.below hbb) hst)
    rw [hc] at HO
    clear hb he hl hI hJ hc hT
    go_enter Tryd.func25, Tryd.ntmps25
    go_wp2_with (first | (go_at_call 39; refine H1.out.mono ?_; rintro e w1 ⟨v, rfl, hv, _, hb1⟩; obtain ⟨g, rfl, hg, hst⟩ := hv rfl) | (go_at_call 60; refine (HO.out g _ hb1 hst).mono ?_; rintro e w2 ⟨rfl, hb2⟩))
    go_ret2
    exact ⟨_, rfl, World.ownsRow_nil _ _ _ _, hb1.trans (hb2.mono hb1.size)⟩
  · obtain ⟨⟨s1, _⟩, ⟨h1, _⟩⟩ := bothE_ok hb
    rw [he, hl]
    rw [hb] at H1
    have HO := Lib.hid (fun (g : Nat) (w' : World) (hbb : Below w.heap.size w w') (hst : StA w' g ss.length (sets ss hs)) => isopen_any g ss hs (sets ss hs) ss.length d B (by omega) h1 (isF_sets ss hs) w' (hT.below hbb) hst)
    have hCb := Pl.cb_lft (isF_sets ss hs) hc []
    rw [Pl.lft_nil] at hCb
    rw [hc] at HO
    have HW := Lib.hid (fun (g : Nat) (w' : World) (hst : StA w' g ss.length (sets ss hs)) => greedy_any g ss.length ss.length (sets ss hs) (2 ^ hs.length - 1) s1 (sets_40 ss hs h1) (pow40 h1) hCb w' hst)
    have HF := Lib.hid (fun w => first_any hs.length (by omega) w)
    clear hb he hl hI hJ hc hT hCb
    generalize Pl.gr (sets ss hs) ss.length 40 (2 ^ hs.length - 1) = L at *
    generalize 2 ^ hs.length - 1 = H at *
    go_enter Tryd.func25, Tryd.ntmps25
    go_wp2_with (first
      | (go_at_call 39; refine H1.out.mono ?_; rintro e w1 ⟨v, rfl, hv, _, hb1⟩; obtain ⟨g, rfl, hg, hst⟩ := hv rfl)
      | (go_at_call 60; refine (HO.out g _ hb1 hst).mono ?_; rintro e w2 ⟨rfl, hb2⟩; have hB2 := hb1.trans (hb2.mono hb1.size); have hst2 := hst.below hb2 hst.lt)
      | (go_at_call 54; refine (HF.out _).mono ?_; rintro e w' ⟨rfl, hw'⟩; obtain rfl : w2 = w' := hw'.symm)
      | (go_at_call 63; refine (HW.out g _ hst2).mono ?_; rintro e w4 ⟨vl, rfl, hrow, hb4⟩))
    go_ret2
    exact ⟨_, rfl, own_mono hrow hB2.size, hB2.trans (hb4.mono hB2.size)⟩

set_option maxRecDepth 100000 in
set_option maxHeartbeats 2000000 in
/-- the document's all -/
theorem rall_any (n : Nat) (hn : n ≤ 100) (w : World) :
    Calls Tryd.prog 64 #[.int .i64 n] w fun e w' => ∃ v, e = .returned v ∧ w'.ownsRow w.heap.size 3 1 v (nts (List.range n)).length (ints (nts (List.range n))) ∧ Below w.heap.size w w' := by
  go_enter Tryd.func64, Tryd.ntmps64
  go_wp2
  go_loopw [3, 4, 6] (fun v _ i wr => ∃ k : Nat, k ≤ n ∧ i = .int .i64 k ∧ wr.ownsRow w.heap.size 3 1 v (nts (List.range k)).length (ints (nts (List.range k))) ∧ Below w.heap.size w wr) (fun _ _ i _ => n - (intOf i).toNat)
  case atStart => exact ⟨0, Nat.zero_le _, rfl, World.ownsRow_nil _ _ _ _, Below.refl _ _⟩
  case round =>
    obtain ⟨k, hk, rfl, hown, hB⟩ := hrel
    obtain ⟨wo, rfl⟩ : ∃ wo, wo = wr := ⟨_, rfl⟩
    by_cases hlt : k < n
    · have HS : Hid (nts (List.range (k + 1)) = nts (List.range k) ++ [(k : Int)]) := Lib.hid (by rw [List.range_succ, nts_snoc])
      have hlen : (nts (List.range k)).length ≤ 100000 := by rw [nts_len, List.length_range]; omega
      generalize nts (List.range k) = L at *
      go_wp2_with (at_builtin; refine ap_int (n := (k : Int)) (hown.alloc _) rfl _ _ rfl rfl _ rfl ((Blk.new _ _ _).cell 0) hlen (by have := hB.size; simp; omega) ?_; intro v2 w2 hown2 hg2; have hB4 := (hB.alloc hB.size _).grown hg2 (by have := hB.size; simp; omega) (fun s e => (hown.lt s e).1))
      go_roundw
      case rel => exact ⟨k + 1, by omega, by go_num, by rw [HS.out]; exact hown2, hB4⟩
      case measure => simp [intOf]; omega
    · obtain rfl : k = n := by omega
      go_wp2
      go_ret
      exact ⟨_, rfl, hown, hB⟩
end Go.Proofs.YtghbipipehglfaaDoor
