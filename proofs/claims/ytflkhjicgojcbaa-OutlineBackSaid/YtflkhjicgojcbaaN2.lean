import Derived.Test.YtflkhjicgojcbaaN1
namespace Go.Proofs.Ytflkhjicgojcbaa
open Go.RowKit Go.Shelf

theorem withinV_bad {o l : List Geo.XY} (h : ¬ (validB o = true ∧ validB l = true)) : withinV o l = (false, 10) := by unfold withinV; rw [if_neg h]
theorem withinV_good {o l : List Geo.XY} (h : validB o = true ∧ validB l = true) : withinV o l = (holdAllB l o, 0) := by unfold withinV; rw [if_pos h]
theorem seatV_bad {l g : List Geo.XY} (h : ¬ (validB l = true ∧ validB g = true)) (play : Int) : seatV l g play = (false, 10) := by unfold seatV; rw [if_neg h]
theorem seatV_good {l g : List Geo.XY} (h : validB l = true ∧ validB g = true) {play : Int} (hp : 0 ≤ play ∧ play ≤ 1000) : seatV l g play = (holdAllB g l && nearB l g play, 0) := by unfold seatV; rw [if_pos h, if_pos hp]

set_option maxHeartbeats 4000000 in
theorem nests_inv (A A' A'' : Option Addr) (o p q : List Geo.XY) (c c' c'' : Nat) (play : Int) (w : World) (ho : Pts w A o) (hp : Pts w A' p) (hq : Pts w A'' q) (hv : validB o = false) :
    Calls Try.prog 13 #[.slice A o.length c, .slice A' p.length c', .slice A'' q.length c'', .int .u8 play] w fun e w' => e = .returned (.bool true) ∧ Below w.heap.size w w' := by
  have HO := Lib.hid ho
  have HP := Lib.hid hp
  have HQ := Lib.hid hq
  have H1 := Lib.hid (withinV_bad (o := o) (l := p) (by rw [hv]; simp))
  have H3 := Lib.hid (withinV_bad (o := o) (l := q) (by rw [hv]; simp))
  have H4 := Lib.hid (seatV_bad (l := o) (g := o) (by rw [hv]; simp) 0)
  clear ho hp hq hv
  go_enter Try.func13, Try.ntmps13
  go_wp2_with fail
  refine (dwithin_any A A' o p c c' _ HO.out HP.out).mono ?_
  rintro e w1 ⟨rfl, hb1⟩
  rw [H1.out]
  unfold tupB
  go_wp2_with fail
  refine (dwithin_any A' A'' p q c' c'' _ (HP.out.below hb1) (HQ.out.below hb1)).mono ?_
  rintro e w2 ⟨rfl, hb2⟩
  have hB2 := hb1.trans (hb2.mono hb1.size)
  obtain ⟨⟨x, y⟩, hxy⟩ : ∃ r, withinV p q = r := ⟨_, rfl⟩
  rw [hxy]
  clear hxy
  unfold tupB
  go_wp2_with fail
  refine (dwithin_any A A'' o q c c'' _ (HO.out.below hB2) (HQ.out.below hB2)).mono ?_
  rintro e w3 ⟨rfl, hb3⟩
  have hB3 := hB2.trans (hb3.mono hB2.size)
  rw [H3.out]
  unfold tupB
  go_wp2_with fail
  refine (dseat_any A A o o c c 0 _ (HO.out.below hB3) (HO.out.below hB3)).mono ?_
  rintro e w4 ⟨rfl, hb4⟩
  have hB4 := hB3.trans (hb4.mono hB3.size)
  rw [H4.out]
  unfold tupB
  go_wp2_with fail
  refine (awake_any _).mono ?_
  rintro e w5 ⟨rfl, hb5⟩
  go_wp2
  go_ret
  exact ⟨rfl, hB4.trans (hb5.mono hB4.size)⟩

/-- the answers at which the law says true -/
def NestsOk (a : Bool) (e : Int) (b : Bool) (f : Int) (x : Bool) (g : Int) (m : Bool) (me : Int) (n : Bool) : Prop :=
  (e = 10 ∧ m = false ∧ me = 10) ∨ (e = 0 ∧ me = 0 ∧ (f = 10 ∨ (f = 0 ∧ g = 0 ∧ (a = false ∨ b = false ∨ x = true))) ∧ (m = false ∨ (n = true ∧ a = true)))

set_option maxHeartbeats 8000000 in
theorem nests_walk (A A' A'' : Option Addr) (o p q : List Geo.XY) (c c' c'' : Nat) (play : Int) (w : World) (ho : Pts w A o) (hp : Pts w A' p) (hq : Pts w A'' q) (y1 : 0 ≤ play) (y2 : play ≤ 255)
    (a : Bool) (e : Int) (b : Bool) (f : Int) (x : Bool) (g : Int) (m : Bool) (me : Int) (n : Bool) (h1 : withinV o p = (a, e)) (h2 : withinV p q = (b, f)) (h3 : withinV o q = (x, g)) (h4 : seatV o o 0 = (true, 0)) (h5 : seatV o p play = (m, me)) (h6 : seatV o p (play + 100) = (n, me))
    (hok : NestsOk a e b f x g m me n) :
    Calls Try.prog 13 #[.slice A o.length c, .slice A' p.length c', .slice A'' q.length c'', .int .u8 play] w fun e w' => e = .returned (.bool true) ∧ Below w.heap.size w w' := by
  have HO := Lib.hid ho
  have HP := Lib.hid hp
  have HQ := Lib.hid hq
  have H1 := Lib.hid h1
  have H2 := Lib.hid h2
  have H3 := Lib.hid h3
  have H4 := Lib.hid h4
  have H5 := Lib.hid h5
  have H6 := Lib.hid h6
  have e1 : IntKind.i64.wrap play = play := IntWalk.i64_in _ (by omega)
  have e2 : IntKind.i64.wrap (play + 100) = play + 100 := IntWalk.i64_in _ (by clear e1; omega)
  have E1 := Lib.hid e1
  have E2 := Lib.hid e2
  clear ho hp hq h1 h2 h3 h4 h5 h6 e1 e2
  unfold NestsOk at hok
  rcases hok with ⟨rfl, rfl, rfl⟩ | ⟨rfl, rfl, hh, hm⟩
  rotate_left
  rcases hh with rfl | ⟨rfl, rfl, rfl | rfl | rfl⟩
  all_goals try rcases hm with rfl | ⟨rfl, ha⟩
  all_goals try cases ha
  all_goals try cases m
  all_goals try cases a
  all_goals try cases b
  all_goals (
    go_enter Try.func13, Try.ntmps13
    go_wp2_with fail
    refine (dwithin_any A A' o p c c' _ HO.out HP.out).mono ?_
    rintro e w1 ⟨rfl, hb1⟩
    rw [H1.out]
    unfold tupB
    go_wp2_with fail
    refine (dwithin_any A' A'' p q c' c'' _ (HP.out.below hb1) (HQ.out.below hb1)).mono ?_
    rintro e w2 ⟨rfl, hb2⟩
    have hB2 := hb1.trans (hb2.mono hb1.size)
    rw [H2.out]
    unfold tupB
    go_wp2_with fail
    refine (dwithin_any A A'' o q c c'' _ (HO.out.below hB2) (HQ.out.below hB2)).mono ?_
    rintro e w3 ⟨rfl, hb3⟩
    have hB3 := hB2.trans (hb3.mono hB2.size)
    rw [H3.out]
    unfold tupB
    go_wp2_with fail
    refine (dseat_any A A o o c c 0 _ (HO.out.below hB3) (HO.out.below hB3)).mono ?_
    rintro e w4 ⟨rfl, hb4⟩
    have hB4 := hB3.trans (hb4.mono hB3.size)
    rw [H4.out]
    unfold tupB
    go_wp2_with fail
    try rw [E1.out]
    refine (dseat_any A A' o p c c' play _ (HO.out.below hB4) (HP.out.below hB4)).mono ?_
    rintro e w5 ⟨rfl, hb5⟩
    have hB5 := hB4.trans (hb5.mono hB4.size)
    rw [H5.out]
    unfold tupB
    go_wp2_with fail
    try rw [E1.out]
    try rw [E2.out]
    refine (dseat_any A A' o p c c' (play + 100) _ (HO.out.below hB5) (HP.out.below hB5)).mono ?_
    rintro e w6 ⟨rfl, hb6⟩
    have hB6 := hB5.trans (hb6.mono hB5.size)
    rw [H6.out]
    unfold tupB
    go_wp2_with fail
    refine (awake_any _).mono ?_
    rintro e w7 ⟨rfl, hb7⟩
    go_wp2
    go_ret
    exact ⟨rfl, hB6.trans (hb7.mono hB6.size)⟩)

theorem law_nests (A A' A'' : Option Addr) (o p q : List Geo.XY) (c c' c'' : Nat) (play : Int) (w : World) (y1 : 0 ≤ play) (y2 : play ≤ 255) (ho : Pts w A o) (hp : Pts w A' p) (hq : Pts w A'' q) :
    Calls Try.prog 13 #[.slice A o.length c, .slice A' p.length c', .slice A'' q.length c'', .int .u8 play] w fun e w' => e = .returned (.bool true) ∧ Below w.heap.size w w' := by
  cases hvo : validB o with
  | false => exact nests_inv A A' A'' o p q c c' c'' play w ho hp hq hvo
  | true =>
    have h4 : seatV o o 0 = (true, 0) := by rw [seatV_good ⟨hvo, hvo⟩ ⟨by omega, by omega⟩, within_self (valid_of hvo), near_self]; rfl
    cases hvp : validB p with
    | false =>
      refine nests_walk A A' A'' o p q c c' c'' play w ho hp hq y1 y2 false 10 (withinV p q).1 (withinV p q).2 (withinV o q).1 (withinV o q).2 false 10 false (withinV_bad (by rw [hvp]; simp)) rfl rfl h4 (seatV_bad (by rw [hvp]; simp) _) (seatV_bad (by rw [hvp]; simp) _) (.inl ⟨rfl, rfl, rfl⟩)
    | true =>
      refine nests_walk A A' A'' o p q c c' c'' play w ho hp hq y1 y2 _ 0 (withinV p q).1 (withinV p q).2 (withinV o q).1 (withinV o q).2 _ 0 _ (withinV_good ⟨hvo, hvp⟩) rfl rfl h4 (seatV_good ⟨hvo, hvp⟩ ⟨y1, by omega⟩) (seatV_good ⟨hvo, hvp⟩ ⟨by omega, by omega⟩) (.inr ⟨rfl, rfl, ?_, ?_⟩)
      · cases hvq : validB q with
        | false => left; rw [withinV_bad (by rw [hvq]; simp)]
        | true =>
          right
          rw [withinV_good ⟨hvp, hvq⟩, withinV_good ⟨hvo, hvq⟩]
          refine ⟨rfl, rfl, ?_⟩
          cases ha : holdAllB p o with
          | false => exact .inl rfl
          | true =>
            cases hb : holdAllB q p with
            | false => exact .inr (.inl rfl)
            | true => exact .inr (.inr (within_trans (valid_of hvp) ha hb))
      · cases ha : holdAllB p o with
        | false => exact .inl rfl
        | true =>
          cases hn : nearB o p play with
          | false => exact .inl rfl
          | true => exact .inr ⟨by rw [near_more y1 (show play ≤ play + 100 by omega) hn]; rfl, rfl⟩

theorem u8_bd {n : Int} (h : (Lit.int .u8 n).wf = true) : 0 ≤ n ∧ n ≤ 255 := by
  simp only [Lit.wf, Bool.and_eq_true, decide_eq_true_eq] at h
  have h1 : IntKind.u8.min = 0 := by decide
  have h2 : IntKind.u8.max = 255 := by decide
  rw [h1, h2] at h
  exact h
theorem law_nests_row (A A' A'' : Option Addr) (o p q : List Geo.XY) (c c' c'' : Nat) (play : Int) (w : World) (ho : Pts w A o) (hp : Pts w A' p) (hq : Pts w A'' q) (hw : (Lit.int .u8 play).wf = true) :
    Calls Try.prog 13 #[.slice A o.length c, .slice A' p.length c', .slice A'' q.length c'', .int .u8 play] w fun e w' => e = .returned (.bool true) ∧ Below w.heap.size w w' :=
  law_nests A A' A'' o p q c c' c'' play w (u8_bd hw).1 (u8_bd hw).2 ho hp hq
end Go.Proofs.Ytflkhjicgojcbaa
