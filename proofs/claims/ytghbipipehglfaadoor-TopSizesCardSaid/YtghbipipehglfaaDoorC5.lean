/- The document's covers, Covers; the program's Covers. -/
import Derived.Test.YtghbipipehglfaaDoorC4
namespace Go.Proofs.YtghbipipehglfaaDoor
open Go.RowKit Go.Shelf

namespace Pl
/-- the heads from k on are covered -/
def cvK (ss : List Sz) (hs : List Hd) (l : List Nat) (k : Nat) : Bool := ((List.range hs.length).drop k).all fun j => cvb ss (hs.getD j ⟨0, fun _ => 0⟩) l
theorem cvK_zero (ss : List Sz) (hs : List Hd) (l : List Nat) : cvK ss hs l 0 = cv ss hs l := rfl
theorem cvK_step {ss : List Sz} {hs : List Hd} {l : List Nat} {k : Nat} (h : k < hs.length) : cvK ss hs l k = (cvb ss (hs.getD k ⟨0, fun _ => 0⟩) l && cvK ss hs l (k + 1)) := by
  unfold cvK
  rw [List.drop_eq_getElem_cons (by simpa using h), List.all_cons, List.getElem_range]
theorem cvK_end (ss : List Sz) (hs : List Hd) (l : List Nat) : cvK ss hs l hs.length = true := by
  unfold cvK
  rw [List.drop_of_length_le (by simp)]; rfl
theorem setL_spec {n : Nat} : ∀ (l : List Int) (s m : Nat), setL n l s = some m → s < 2 ^ n → m < 2 ^ n ∧ (∀ i : Nat, m.testBit i = (s.testBit i || decide ((i : Int) ∈ l))) ∧ (∀ x ∈ l, 0 ≤ x ∧ x < n) ∧ l.Nodup ∧ (∀ x ∈ l, s.testBit x.toNat = false)
  | [], s, m, h, hs => by
    cases h
    exact ⟨hs, fun i => (by simp), fun x hx => (by cases hx), (by simp), fun x hx => (by cases hx)⟩
  | i :: l, s, m, h, hs => by
    rw [setL] at h
    split at h
    · rename_i hin
      split at h
      · cases h
      · rename_i hb
        obtain ⟨h0, h1⟩ := inB_true.1 hin
        obtain ⟨t, rfl⟩ := Int.eq_ofNat_of_zero_le h0
        rw [Int.toNat_natCast] at h hb
        have ht : t < n := by omega
        obtain ⟨k1, k2, k3, k4, k5⟩ := setL_spec l _ m h (Nat.or_lt_two_pow hs (Nat.pow_lt_pow_right (by omega) ht))
        refine ⟨k1, fun j => ?_, fun x hx => ?_, ?_, fun x hx => ?_⟩
        · rw [k2, Nat.testBit_or, Nat.testBit_two_pow, Bool.or_assoc]
          congr 1
          rw [Bool.eq_iff_iff, Bool.or_eq_true, decide_eq_true_eq, decide_eq_true_eq, decide_eq_true_eq, List.mem_cons]
          have e : (t = j) ↔ ((j : Int) = (t : Int)) := by omega
          rw [e]
        · rcases List.mem_cons.1 hx with rfl | hx
          · exact ⟨h0, by omega⟩
          · exact k3 x hx
        · rw [List.nodup_cons]
          refine ⟨fun hm => ?_, k4⟩
          have := k5 _ hm
          rw [Int.toNat_natCast, Nat.testBit_or, Nat.testBit_two_pow_self, Bool.or_true] at this
          cases this
        · rcases List.mem_cons.1 hx with rfl | hx
          · rw [Int.toNat_natCast]; simpa using hb
          · have := k5 x hx
            rw [Nat.testBit_or, Bool.or_eq_false_iff] at this
            exact this.1
    · cases h
theorem setL_ok {n m : Nat} {l : List Int} (h : setL n l 0 = some m) : m < 2 ^ n ∧ (∀ i : Nat, m.testBit i = decide ((i : Int) ∈ l)) ∧ (∀ x ∈ l, 0 ≤ x ∧ x < n) ∧ l.Nodup := by
  obtain ⟨h1, h2, h3, h4, _⟩ := setL_spec l 0 m h (Nat.two_pow_pos n)
  exact ⟨h1, fun i => by rw [h2]; simp, h3, h4⟩
end Pl
theorem mem_nats {n m : Nat} {l : List Int} (h : Pl.setL n l 0 = some m) (hn : n ≤ 64) (i : Nat) : i ∈ Pl.els m 64 ↔ i ∈ nats l := by
  obtain ⟨h1, h2, h3, _⟩ := Pl.setL_ok h
  rw [Pl.mem_els, h2, decide_eq_true_eq]
  unfold nats
  rw [List.mem_map]
  constructor
  · rintro ⟨_, hm⟩; exact ⟨_, hm, by simp⟩
  · rintro ⟨x, hx, rfl⟩
    obtain ⟨h0, h4⟩ := h3 x hx
    exact ⟨by omega, by rwa [Int.toNat_of_nonneg h0]⟩
theorem getD_bd {n m : Nat} {l : List Int} (h : Pl.setL n l 0 = some m) : ∀ k, k < l.length → 0 ≤ l.getD k 0 ∧ l.getD k 0 < n := fun _ hk =>
  (Pl.setL_ok h).2.2.1 _ (Pl.getD_in hk)

set_option maxRecDepth 100000 in
set_option maxHeartbeats 4000000 in
theorem rcovers_any (A B Al : Option Addr) (ss : List Pl.Sz) (hs : List Pl.Hd) (l : List Int) (c d cl : Nat) (w : World) (hv : ∀ k, k < ss.length → Pl.vsz (ss.getD k Pl.zsz) = true) (hh : ∀ k, k < hs.length → Pl.vh (hs.getD k zhd) = true)
    (hl : ∀ k, k < l.length → 0 ≤ l.getD k 0 ∧ l.getD k 0 < ss.length) (hmax : l.length ≤ 9223372036854775807) (hh40 : hs.length ≤ 40) (hI : Szs w A ss) (hJ : Hds w B hs) (hL : Ints w Al l) :
    Calls Tryd.prog 56 #[.slice A ss.length c, .slice B hs.length d, .slice Al l.length cl] w fun e w' => e = .returned (.bool (Pl.cv ss hs (nats l))) ∧ Below w.heap.size w w' := by
  obtain ⟨R, hR⟩ : ∃ R, Pl.cvK ss hs (nats l) 0 = R := ⟨_, rfl⟩
  rw [show Pl.cv ss hs (nats l) = R from hR]
  have HR := Lib.hid hR
  have HH := Lib.hid hh
  have HJ := Lib.hid hJ
  have HC := Lib.hid (fun (h : Pl.Hd) (w' : World) (hb : Below w.heap.size w w') (hvh : Pl.vh h = true) => rcovered_any A Al ss h l c cl w' hv hvh hl hmax (hI.below hb) (hL.below hb))
  clear hR hv hh hL hl hI hJ
  go_enter Tryd.func56, Tryd.ntmps56
  go_wp2
  go_loopw [8, 11] (fun _ i wr => ∃ k : Nat, k ≤ hs.length ∧ i = .int .i64 k ∧ Hid (Pl.cvK ss hs (nats l) k = R) ∧ Below w.heap.size w wr) (fun _ i _ => hs.length - (intOf i).toNat)
  case atStart => exact ⟨0, Nat.zero_le _, rfl, HR, Below.refl _ _⟩
  case round =>
    clear HR
    obtain ⟨k, hk, rfl, hr, hB⟩ := hrel
    obtain ⟨wo, rfl⟩ : ∃ wo, wo = wr := ⟨_, rfl⟩
    by_cases hlt : k < hs.length
    · obtain ⟨bz, oz, rfl, hbz, hcz⟩ : ∃ bb off, B = some ⟨bb, off, none⟩ ∧ bb < w.heap.size ∧ ∀ j, j < hs.length → w.rangeAt bb (off + j * 6) (hdA (hs.getD j zhd)).toList := by
        rcases HJ.out with h | ⟨bb, off, he, hb, hc⟩
        · rw [h] at hlt; simp at hlt
        · exact ⟨bb, off, he, hb, hc⟩
      have hck := rangeAt_below (hcz k hlt) hbz hB
      have hhv := Lib.hid (HH.out k hlt)
      have hr2 := Lib.hid (hr.out.symm.trans (Pl.cvK_step hlt))
      clear hr hcz
      generalize hs.getD k zhd = E1 at *
      have bE : Blk (wo.alloc (.cells (hdA E1) 34)) wo.heap.size 34 (hdA E1) := Blk.new wo _ _
      have hB1 := hB.alloc hB.size (.cells (hdA E1) 34)
      have r1 := bE.range
      obtain ⟨b, hb⟩ : ∃ b, Pl.cvb ss E1 (nats l) = b := ⟨_, rfl⟩
      have HFT := Lib.hid (HC.out E1 _ hB1 hhv.out)
      rw [hb] at HFT hr2
      clear hb
      cases b with
      | true =>
        have HN : Hid (Pl.cvK ss hs (nats l) (k + 1) = R) := Lib.hid (by rw [hr2.out]; rfl)
        clear hr2
        go_wp2_with (first | refine ldm_head hck rfl _ rfl rfl ?_ | refine ldm_head r1 rfl _ rfl rfl ?_ | (go_at_call 65; refine HFT.out.mono ?_; rintro e w6 ⟨rfl, hb6⟩))
        go_roundw
        case rel => exact ⟨k + 1, by omega, by go_num, HN, hB1.trans (hb6.mono hB1.size)⟩
        case measure => simp [intOf]; omega
      | false =>
        have HF : Hid (R = false) := Lib.hid hr2.out
        clear hr2
        go_wp2_with (first | refine ldm_head hck rfl _ rfl rfl ?_ | refine ldm_head r1 rfl _ rfl rfl ?_ | (go_at_call 65; refine HFT.out.mono ?_; rintro e w6 ⟨rfl, hb6⟩))
        go_ret
        exact ⟨by rw [HF.out]; rfl, hB1.trans (hb6.mono hB1.size)⟩
    · obtain rfl : k = hs.length := by omega
      have HF : Hid (R = true) := Lib.hid (by rw [← hr.out, Pl.cvK_end])
      go_wp2
      go_ret
      exact ⟨by rw [HF.out]; rfl, hB⟩

/-- what Covers gives -/
def cvE (ss : List Pl.Sz) (hs : List Pl.Hd) (l : List Int) : Int := if bothE ss hs = 0 then (if (Pl.setL ss.length l 0).isSome = true then 0 else 2) else bothE ss hs
def cvV (ss : List Pl.Sz) (hs : List Pl.Hd) (l : List Int) : Bool := if cvE ss hs l = 0 then Pl.cv ss hs (nats l) else false
theorem bothE_ok {ss : List Pl.Sz} {hs : List Pl.Hd} (h : bothE ss hs = 0) : (ss.length ≤ 20 ∧ ∀ k, k < ss.length → Pl.vsz (ss.getD k Pl.zsz) = true) ∧ (hs.length ≤ 40 ∧ ∀ k, k < hs.length → Pl.vh (hs.getD k zhd) = true) := by
  unfold bothE at h
  split at h
  · rename_i h1
    split at h
    · rename_i h2
      exact ⟨Pl.vszs_ok h1, Pl.vhds_ok h2⟩
    · cases h
  · cases h
theorem cvE_three (ss : List Pl.Sz) (hs : List Pl.Hd) (l : List Int) : (bothE ss hs ≠ 0 ∧ cvE ss hs l = bothE ss hs ∧ cvV ss hs l = false) ∨ (bothE ss hs = 0 ∧ Pl.setL ss.length l 0 = none ∧ cvE ss hs l = 2 ∧ cvV ss hs l = false) ∨
    (∃ m, bothE ss hs = 0 ∧ Pl.setL ss.length l 0 = some m ∧ cvE ss hs l = 0 ∧ cvV ss hs l = Pl.cv ss hs (nats l)) := by
  by_cases h : bothE ss hs = 0
  · cases hm : Pl.setL ss.length l 0 with
    | none =>
      have e : cvE ss hs l = 2 := by unfold cvE; rw [if_pos h, hm]; rfl
      exact .inr (.inl ⟨h, rfl, e, if_neg (by rw [e]; decide)⟩)
    | some m =>
      have e : cvE ss hs l = 0 := by unfold cvE; rw [if_pos h, hm]; rfl
      exact .inr (.inr ⟨m, h, rfl, e, if_pos e⟩)
  · have e : cvE ss hs l = bothE ss hs := if_neg h
    exact .inl ⟨h, e, if_neg (by rw [e]; exact h)⟩

set_option maxRecDepth 100000 in
set_option maxHeartbeats 4000000 in
theorem rCovers_any (A B Al : Option Addr) (ss : List Pl.Sz) (hs : List Pl.Hd) (l : List Int) (c d cl : Nat) (w : World) (c1 : ss.length ≤ c) (c2 : ss.length ≤ 9223372036854775807) (c3 : hs.length ≤ d) (c4 : hs.length ≤ 9223372036854775807) (c5 : l.length ≤ cl)
    (hmax : l.length ≤ 9223372036854775807) (hI : Szs w A ss) (hJ : Hds w B hs) (hL : Ints w Al l) :
    Calls Tryd.prog 20 #[.slice A ss.length c, .slice B hs.length d, .slice Al l.length cl] w fun e w' => e = .returned (.tuple #[.bool (cvV ss hs l), .int .i64 (cvE ss hs l)]) ∧ Below w.heap.size w w' := by
  have H1 := Lib.hid (both_any A B ss hs c d w c1 c2 c3 c4 hI hJ)
  rcases cvE_three ss hs l with ⟨hb, he, hv⟩ | ⟨hb, hm, he, hv⟩ | ⟨m, hb, hm, he, hv⟩
  · rw [he, hv]
    have hne : (bothE ss hs != 0) = true := bne_iff_ne.2 hb
    clear hb he hv
    generalize bothE ss hs = E at *
    go_enter Tryd.func20, Tryd.ntmps20
    go_wp2_with (go_at_call 41; refine H1.out.mono ?_; rintro e w1 ⟨rfl, hb1⟩)
    go_ret2
    exact ⟨rfl, hb1⟩
  · obtain ⟨⟨s1, s2⟩, ⟨h1, h2⟩⟩ := bothE_ok hb
    rw [he, hv]
    rw [hb] at H1
    have H2 := Lib.hid (fun (w' : World) (hbb : Below w.heap.size w w') => listed_any Al l cl ss.length c5 hmax w' (hL.below hbb))
    rw [hm] at H2
    clear hb he hv hm hI hJ hL s2 h2
    go_enter Tryd.func20, Tryd.ntmps20
    go_wp2_with (first | (go_at_call 41; refine H1.out.mono ?_; rintro e w1 ⟨rfl, hb1⟩) | (go_at_call 55; refine (H2.out _ hb1).mono ?_; rintro e w' ⟨rfl, hw'⟩; obtain rfl : w1 = w' := hw'.symm))
    go_ret2
    exact ⟨rfl, hb1⟩
  · obtain ⟨⟨s1, s2⟩, ⟨h1, h2⟩⟩ := bothE_ok hb
    rw [he, hv]
    rw [hb] at H1
    have H2 := Lib.hid (fun (w' : World) (hbb : Below w.heap.size w w') => listed_any Al l cl ss.length c5 hmax w' (hL.below hbb))
    have H3 := Lib.hid (fun (w' : World) (hbb : Below w.heap.size w w') => rcovers_any A B Al ss hs l c d cl w' s2 h2 (getD_bd hm) hmax h1 (hI.below hbb) (hJ.below hbb) (hL.below hbb))
    rw [hm] at H2
    clear hb he hv hm hI hJ hL s2 h2
    generalize Pl.cv ss hs (nats l) = C at *
    go_enter Tryd.func20, Tryd.ntmps20
    go_wp2_with (first | (go_at_call 41; refine H1.out.mono ?_; rintro e w1 ⟨rfl, hb1⟩) | (go_at_call 55; refine (H2.out _ hb1).mono ?_; rintro e w' ⟨rfl, hw'⟩; obtain rfl : w1 = w' := hw'.symm) | (go_at_call 56; refine (H3.out _ hb1).mono ?_; rintro e w2 ⟨rfl, hb2⟩))
    go_ret2
    exact ⟨rfl, hb1.trans (hb2.mono hb1.size)⟩
end Go.Proofs.YtghbipipehglfaaDoor
