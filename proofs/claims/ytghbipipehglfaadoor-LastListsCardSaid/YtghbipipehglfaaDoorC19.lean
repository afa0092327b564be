/- Lists of lists of numbers that a call has made; Fitted, the program's and the document's. -/
import Derived.Test.YtghbipipehglfaaDoorC6
import Derived.Test.YtghbipipehglfaaDoorC10
namespace Go.Proofs.YtghbipipehglfaaDoor
open Go.RowKit Go.Shelf

theorem info26l : (Tryd.prog.info? 31).map (fun i => (i.zero, i.size, i.bytes)) = some (some (.slice none 0 0), 1, 24) := by kernel_rfl
/-- a list of lists, each of the call's own -/
def Lol (W : World) (B : Nat) (v : Value) (L : List (List Nat)) : Prop :=
  ∃ xs, W.ownsRow B 31 1 v L.length xs ∧ ∀ i, i < L.length → ∃ u, xs[i]? = some u ∧ W.ownsRow B 3 1 u (nts (L.getD i [])).length (ints (nts (L.getD i [])))
theorem Lol.nil (W : World) (B : Nat) : Lol W B (.slice none 0 0) [] := ⟨[], World.ownsRow_nil _ _ _ _, fun i hi => absurd hi (Nat.not_lt_zero i)⟩
theorem Lol.below {W W' : World} {B : Nat} {v : Value} {L : List (List Nat)} (h : Lol W B v L) (hb : Below W.heap.size W W') : Lol W' B v L := by
  obtain ⟨xs, h1, h2⟩ := h
  refine ⟨xs, own_keep h1 hb, fun i hi => ?_⟩
  obtain ⟨u, e, h3⟩ := h2 i hi
  exact ⟨u, e, own_keep h3 hb⟩
theorem Lol.alloc {W : World} {B : Nat} {v : Value} {L : List (List Nat)} (h : Lol W B v L) (o : Obj) : Lol (W.alloc o) B v L := h.below ((Below.refl _ W).alloc (Nat.le_refl _) o)
theorem Lol.slice {W : World} {B : Nat} {v : Value} {L : List (List Nat)} (h : Lol W B v L) : ∃ A c, v = .slice A L.length c := by
  obtain ⟨xs, h1, _⟩ := h
  exact own_slice h1
/-- blocks of rows of different types are different -/
theorem own_far {W W' : World} {B B' n m s s' : Nat} {e e' : TypeId} {v u : Value} {xs ys : List Value} (h : W.ownsRow B e s v n xs) (k : W.ownsRow B' e' s' u m ys) (hne : e ≠ e') (hg : W.grownBy W' v.ownBlock) : W'.ownsRow B' e' s' u m ys := by
  refine k.kept hg ?_
  rcases hu : u.ownBlock with _ | b
  · exact .inl rfl
  · right
    intro e1
    rcases h.2 with ⟨rfl, _⟩ | ⟨g, cap, cur, rfl, _, hgc, _⟩
    · cases e1
    · rcases k.2 with ⟨rfl, _⟩ | ⟨g2, cap2, cur2, rfl, _, hgc2, _⟩
      · cases hu
      · have e3 : g2 = b := by simpa [Value.ownBlock] using hu
        have e4 : b = g := by simpa [Value.ownBlock] using e1
        subst e3 e4
        rw [hgc] at hgc2
        cases hgc2
        exact hne rfl
/-- one more list -/
theorem ap_list {ops : Array Oper} {rest : List Oper} {o : Oper} {a : Act} {Q : Exit → Act → World → Prop} {w : World} {B : Nat} {v u : Value} {L : List (List Nat)} {l : List Nat} (hL : Lol w B v L) (hu : w.ownsRow B 3 1 u (nts l).length (ints (nts l))) (hgd : o.guard = none) (s x : Operand)
    (ho : o.op = .call { callee := .builtin .append, args := #[s, x], argTypes := #[26, 26] }) (hs : a.eval s = v) (g : Nat) (hx : a.eval x = .slice (some ⟨g, 0, none⟩) 1 1)
    (hc : w.cell? ⟨g, 0, none⟩ = some u) (hu1 : u.oneCell' = true) (hlen : L.length ≤ 100000) (hB : B ≤ w.heap.size)
    (h : ∀ v' w', Lol w' B v' (L ++ [l]) → Below B w w' → (∀ g t cs, Blk w g t cs → t ≠ 31 → Blk w' g t cs) → wpList Tryd.prog ops Q rest (a.put o.dst v') w') : wpList Tryd.prog ops Q (o :: rest) a w := by
  obtain ⟨i0, hi, hz0, hz1, hz2⟩ := info_parts info26l
  obtain ⟨xs, h1, h2⟩ := hL
  have hxl : xs.length = L.length := by simpa using h1.1
  refine wpList_append_own w hgd s x 26 ho B 31 i0 (.slice none 0 0) 1 24 Tryd.underlying26 hi hz0 hz1 hz2 rfl (by decide) v L.length xs hs h1 ⟨g, 0, none⟩ 1 1 [u] hx rfl ?_ ?_ (by unfold maxLen; omega) (by omega) hB ?_
  · intro j z hj
    cases j with
    | zero => simp at hj; subst hj; exact hc
    | succ j => simp at hj
  · intro z hz
    rw [List.mem_singleton.1 hz]; exact hu1
  · intro v' w' hown hg _
    refine h v' w' ⟨xs ++ [u], by rw [List.length_append]; exact hown, fun i hi => ?_⟩ ((Below.refl B w).grown hg hB (fun k e => (h1.lt k e).1)) (fun g t cs hb hne => hb.grew h1 hg (.inr hne))
    rw [List.length_append] at hi
    by_cases hlt : i < L.length
    · obtain ⟨z, e, h3⟩ := h2 i hlt
      refine ⟨z, by rw [List.getElem?_append_left (by omega)]; exact e, ?_⟩
      have e2 : (L ++ [l]).getD i [] = L.getD i [] := by
        rw [List.getD_eq_getElem?_getD, List.getD_eq_getElem?_getD, List.getElem?_append_left hlt]
      rw [e2]
      exact own_far h1 h3 (by decide) hg
    · obtain rfl : i = L.length := by simp at hi; omega
      refine ⟨u, by rw [← hxl, List.getElem?_append_right (Nat.le_refl _)]; simp, ?_⟩
      have e2 : (L ++ [l]).getD L.length [] = l := by
        rw [List.getD_eq_getElem?_getD, List.getElem?_append_right (Nat.le_refl _)]; simp
      rw [e2]
      exact own_far h1 hu (by decide) hg

theorem StA.kp {W W' : World} {g n : Nat} {f : Nat → Nat} (h : StA W g n f) (hk : ∀ g t cs, Blk W g t cs → t ≠ 31 → Blk W' g t cs) : StA W' g n f := by
  obtain ⟨arr, h1, h2, h3⟩ := h
  exact ⟨arr, hk _ _ _ h1 (by decide), h2, h3⟩
/-- the heads that size q fits -/
def fitL (ss : List Pl.Sz) (hs : List Pl.Hd) (q : Nat) : List Nat := Pl.els (sets ss hs q) 64
def fitLL (ss : List Pl.Sz) (hs : List Pl.Hd) (k : Nat) : List (List Nat) := (List.range k).map (fitL ss hs)
theorem fitLL_len (ss : List Pl.Sz) (hs : List Pl.Hd) (k : Nat) : (fitLL ss hs k).length = k := by simp [fitLL]
theorem fitLL_succ (ss : List Pl.Sz) (hs : List Pl.Hd) (k : Nat) : fitLL ss hs (k + 1) = fitLL ss hs k ++ [fitL ss hs k] := by simp [fitLL, List.range_succ]
theorem fitL_step {ss : List Pl.Sz} {hs : List Pl.Hd} {q j : Nat} (hj : j < hs.length) : Pl.els (sets ss hs q) (j + 1) = if Pl.fit (ss.getD q Pl.zsz) (hs.getD j zhd) = true then Pl.els (sets ss hs q) j ++ [j] else Pl.els (sets ss hs q) j := by
  rw [Pl.els_succ, isF_sets ss hs q j, decide_eq_true hj, Bool.true_and]
  split
  · rfl
  · rw [List.append_nil]
theorem fitL_end (ss : List Pl.Sz) (hs : List Pl.Hd) (q : Nat) (h40 : hs.length ≤ 40) : Pl.els (sets ss hs q) hs.length = fitL ss hs q := by
  unfold fitL
  exact (Pl.els_lt ((isF_sets ss hs).lt q) (show hs.length ≤ 64 by omega)).symm
theorem own_one {W : World} {B n : Nat} {v : Value} {xs : List Value} {e : TypeId} {s : Nat} (h : W.ownsRow B e s v n xs) : v.oneCell' = true := by
  obtain ⟨A, c, rfl⟩ := own_slice h
  rfl
/-- what Fitted gives -/
def ftLL (ss : List Pl.Sz) (hs : List Pl.Hd) : List (List Nat) := if bothE ss hs = 0 then fitLL ss hs ss.length else []

set_option maxRecDepth 100000 in
set_option maxHeartbeats 4000000 in
theorem Fitted_any (A B : Option Addr) (ss : List Pl.Sz) (hs : List Pl.Hd) (c d : Nat) (w : World) (hT : Tab w) (hI : Szs w A ss) (hJ : Hds w B hs) :
    Calls Tryd.prog 13 #[.slice A ss.length c, .slice B hs.length d] w fun e w' => ∃ v, e = .returned (.tuple #[v, .int .i64 (bothE ss hs)]) ∧ Lol w' w.heap.size v (ftLL ss hs) ∧ Below w.heap.size w w' := by
  have H1 := Lib.hid (fitted_any A B ss hs c d w hI hJ)
  by_cases hb : bothE ss hs = 0
  · obtain ⟨⟨s1, _⟩, ⟨h1, _⟩⟩ := bothE_ok hb
    have HL : Hid (ftLL ss hs = fitLL ss hs ss.length) := Lib.hid (if_pos hb)
    rw [hb] at H1
    rw [hb]
    have HLI := Lib.hid (fun (k : Nat) (w' : World) (hbb : Below w.heap.size w w') => list_any (sets ss hs k) (sets_40 ss hs h1 k) w' (hT.below hbb))
    clear hb hI hJ hT
    generalize ftLL ss hs = R at *
    go_enter Tryd.func13, Tryd.ntmps13
    go_wp2_with fail
    refine H1.out.mono ?_
    rintro e w1 ⟨v, rfl, hv, _, hb1⟩
    obtain ⟨g, rfl, hg, hst⟩ := hv (by first | rfl | trivial)
    clear H1 hv
    go_wp2
    go_loopw [8, 10, 22] (fun tv _ i wr => ∃ k : Nat, k ≤ ss.length ∧ i = .int .i64 k ∧ Lol wr w.heap.size tv (fitLL ss hs k) ∧ StA wr g ss.length (sets ss hs) ∧ Below w.heap.size w wr) (fun _ _ i _ => ss.length - (intOf i).toNat)
    case atStart => exact ⟨0, Nat.zero_le _, rfl, Lol.nil _ _, hst, hb1⟩
    case round =>
      clear hst hb1
      obtain ⟨k, hk, rfl, hL, hst, hB⟩ := hrel
      obtain ⟨wo, rfl⟩ : ∃ wo, wo = wr := ⟨_, rfl⟩
      by_cases hlt : k < ss.length
      · have q1 := hst.cell hlt
        have HS := Lib.hid (fitLL_succ ss hs k)
        have HLK : Hid (fitL ss hs k = Pl.els (sets ss hs k) 64) := Lib.hid rfl
        have HLE := Lib.hid (fitLL_len ss hs k)
        have HLk := Lib.hid (HLI.out k wo hB)
        rw [← HLK.out] at HLk
        have HST := Lib.hid hst
        generalize fitL ss hs k = lk at *
        generalize sets ss hs k = sk at q1 HLk
        clear hst HLK
        go_wp2_with fail
        refine HLk.out.mono ?_
        rintro e w2 ⟨v2, rfl, hown2, hb2⟩
        have hL2 := hL.below hb2
        have hB2 := hB.trans (hb2.mono hB.size)
        have HST2 := Lib.hid (HST.out.below hb2 HST.out.lt)
        have hon := own_mono hown2 hB.size
        obtain ⟨A2, c2, rfl⟩ := own_slice hon
        clear HST hL hB hb2 HLk hown2
        go_wp2_with (at_builtin; refine ap_list (hL2.alloc _) (hon.alloc _) rfl _ _ rfl rfl _ rfl ((Blk.new _ _ _).cell 0) (own_one hon) (by rw [HLE.out]; omega) (by have := hB2.size; simp; omega) ?_; intro v3 w3 hL3 hb3 hk3; have hB3 := (hB2.alloc hB2.size _).trans hb3; have hst3 := StA.kp (HST2.out.alloc _) hk3)
        go_roundw
        case rel => exact ⟨k + 1, by omega, by go_num, by rw [HS.out]; exact hL3, hst3, hB3⟩
        case measure => simp [intOf]; omega
      · obtain rfl : k = ss.length := by omega
        go_wp2
        go_ret2
        exact ⟨_, rfl, by rw [HL.out]; exact hL, hB⟩
  · have hne : (bothE ss hs != 0) = true := bne_iff_ne.2 hb
    have HB := Lib.hid hb
    have HL : Hid (ftLL ss hs = []) := Lib.hid (if_neg hb)
    clear hb
    generalize bothE ss hs = E at *
    generalize ftLL ss hs = R at *
    go_enter Tryd.func13, Tryd.ntmps13
    go_wp2_with (go_at_call 39; refine H1.out.mono ?_; rintro e w1 ⟨v, rfl, _, hv, hb1⟩; obtain rfl := hv HB.out)
    go_ret2
    exact ⟨_, rfl, by rw [HL.out]; exact Lol.nil _ _, hb1⟩

set_option maxRecDepth 100000 in
set_option maxHeartbeats 8000000 in
theorem rFitted_any (A B : Option Addr) (ss : List Pl.Sz) (hs : List Pl.Hd) (c d : Nat) (w : World) (c1 : ss.length ≤ c) (c2 : ss.length ≤ 9223372036854775807) (c3 : hs.length ≤ d) (c4 : hs.length ≤ 9223372036854775807) (hI : Szs w A ss) (hJ : Hds w B hs) :
    Calls Tryd.prog 14 #[.slice A ss.length c, .slice B hs.length d] w fun e w' => ∃ v, e = .returned (.tuple #[v, .int .i64 (bothE ss hs)]) ∧ Lol w' w.heap.size v (ftLL ss hs) ∧ Below w.heap.size w w' := by
  have H1 := Lib.hid (both_any A B ss hs c d w c1 c2 c3 c4 hI hJ)
  by_cases hb : bothE ss hs = 0
  · obtain ⟨⟨s1, s2⟩, ⟨h1, h2⟩⟩ := bothE_ok hb
    have HL : Hid (ftLL ss hs = fitLL ss hs ss.length) := Lib.hid (if_pos hb)
    rw [hb] at H1
    rw [hb]
    have HI := Lib.hid hI
    have HJ := Lib.hid hJ
    have HSV := Lib.hid s2
    have HHV := Lib.hid h2
    clear hb hI hJ s2 h2
    generalize ftLL ss hs = R at *
    go_enter Tryd.func14, Tryd.ntmps14
    go_wp2_with fail
    refine H1.out.mono ?_
    rintro e w1 ⟨rfl, hb1⟩
    clear H1
    go_wp2
    go_loopw [7, 9, 10, 11, 12, 21] (fun tv _ _ _ _ i wr => ∃ k : Nat, k ≤ ss.length ∧ i = .int .i64 k ∧ Lol wr w.heap.size tv (fitLL ss hs k) ∧ Below w.heap.size w wr) (fun _ _ _ _ _ i _ => ss.length - (intOf i).toNat)
    case atStart => exact ⟨0, Nat.zero_le _, rfl, Lol.nil _ _, hb1⟩
    case round =>
      clear hb1
      obtain ⟨k, hk, rfl, hL, hB⟩ := hrel
      obtain ⟨wo, rfl⟩ : ∃ wo, wo = wr := ⟨_, rfl⟩
      by_cases hlt : k < ss.length
      · obtain ⟨bz, oz, rfl, hbz, hcz⟩ : ∃ bb off, A = some ⟨bb, off, none⟩ ∧ bb < w.heap.size ∧ ∀ j, j < ss.length → w.rangeAt bb (off + j * 17) (szA (ss.getD j Pl.zsz)).toList := by
          rcases HI.out with h | ⟨bb, off, he, hb, hc⟩
          · rw [h] at hlt; simp at hlt
          · exact ⟨bb, off, he, hb, hc⟩
        have hcs := rangeAt_below (hcz k hlt) hbz hB
        have hsv := Lib.hid (HSV.out k hlt)
        have HS := Lib.hid (fitLL_succ ss hs k)
        have HLE := Lib.hid (fitLL_len ss hs k)
        have HST := Lib.hid (fun j (hj : j < hs.length) => fitL_step (ss := ss) (hs := hs) (q := k) hj)
        have HEN := Lib.hid (fitL_end ss hs k h1)
        clear hcz
        generalize ss.getD k Pl.zsz = E1 at *
        generalize sets ss hs k = sk at *
        have bE : Blk (wo.alloc (.cells (szA E1) 46)) wo.heap.size 46 (szA E1) := Blk.new wo _ _
        have hB1 := hB.alloc hB.size (.cells (szA E1) 46)
        have hL1 := hL.alloc (.cells (szA E1) 46)
        go_wp2_with (refine ldm_size hcs rfl _ rfl rfl ?_)
        clear hL hB hcs
        obtain ⟨W1, hW1⟩ : ∃ W1, wo.alloc (.cells (szA E1) 46) = W1 := ⟨_, rfl⟩
        rw [hW1] at bE hB1 hL1 ⊢
        clear hW1
        have hEl := bE.lt
        generalize wo.heap.size = be at *
        go_loopw [10, 11, 12, 27] (fun lv _ _ i wr => ∃ j : Nat, j ≤ hs.length ∧ i = .int .i64 j ∧ wr.ownsRow W1.heap.size 3 1 lv (nts (Pl.els sk j)).length (ints (nts (Pl.els sk j))) ∧ Below W1.heap.size W1 wr) (fun _ _ _ i _ => hs.length - (intOf i).toNat)
        case atStart => exact ⟨0, Nat.zero_le _, rfl, World.ownsRow_nil _ _ _ _, Below.refl _ _⟩
        case round =>
          obtain ⟨j, hj, rfl, hown, hB2⟩ := hrel
          obtain ⟨wp, rfl⟩ : ∃ wp, wp = wr := ⟨_, rfl⟩
          by_cases hjn : j < hs.length
          · obtain ⟨by_, oy, rfl, hby, hcy⟩ : ∃ bb off, B = some ⟨bb, off, none⟩ ∧ bb < w.heap.size ∧ ∀ j, j < hs.length → w.rangeAt bb (off + j * 6) (hdA (hs.getD j zhd)).toList := by
              rcases HJ.out with h | ⟨bb, off, he, hb, hc⟩
              · rw [h] at hjn; simp at hjn
              · exact ⟨bb, off, he, hb, hc⟩
            have hcj := rangeAt_below (hcy j hjn) hby (hB1.trans (hB2.mono hB1.size))
            have hvj := Lib.hid (HHV.out j hjn)
            have HSJ := Lib.hid (HST.out j hjn)
            clear hcy
            generalize hs.getD j zhd = F1 at *
            have bE2 := (bE.below hB2 hEl).alloc (.cells (hdA F1) 34)
            have bF : Blk (wp.alloc (.cells (hdA F1) 34)) wp.heap.size 34 (hdA F1) := Blk.new wp _ _
            have hB3 := hB2.alloc hB2.size (.cells (hdA F1) 34)
            have hown3 := hown.alloc (.cells (hdA F1) 34)
            have r1 := bE2.range
            have r2 := bF.range
            obtain ⟨b, hb⟩ : ∃ b, Pl.fit E1 F1 = b := ⟨_, rfl⟩
            have HFT := Lib.hid (fun w => rfits_any E1 F1 hsv.out hvj.out w)
            rw [hb] at HFT HSJ
            have hel : (nts (Pl.els sk j)).length ≤ 40 := by rw [nts_len]; exact Nat.le_trans (Pl.els_len sk j) (by omega)
            clear hb bE2 bF hown hB2
            cases b with
            | false =>
              have HN : Hid (Pl.els sk (j + 1) = Pl.els sk j) := Lib.hid HSJ.out
              go_wp2_with (first | refine ldm_head hcj rfl _ rfl rfl ?_ | refine ldm_size r1 rfl _ rfl rfl ?_ | refine ldm_head r2 rfl _ rfl rfl ?_ | (go_at_call 42; refine (HFT.out _).mono ?_; rintro e w6 ⟨rfl, hb6⟩))
              go_roundw
              case rel => exact ⟨j + 1, by omega, by go_num, by rw [HN.out]; exact own_keep hown3 hb6, hB3.trans (hb6.mono hB3.size)⟩
              case measure => simp [intOf]; omega
            | true =>
              have HN : Hid (Pl.els sk (j + 1) = Pl.els sk j ++ [j]) := Lib.hid HSJ.out
              go_wp2_with (first
                | refine ldm_head hcj rfl _ rfl rfl ?_
                | refine ldm_size r1 rfl _ rfl rfl ?_
                | refine ldm_head r2 rfl _ rfl rfl ?_
                | (go_at_call 42; refine (HFT.out _).mono ?_; rintro e w6 ⟨rfl, hb6⟩; have hown6 := own_keep hown3 hb6; have hB6 := hB3.trans (hb6.mono hB3.size))
                | (at_builtin; refine ap_int (n := (j : Int)) (hown6.alloc _) rfl _ _ rfl rfl _ rfl ((Blk.new _ _ _).cell 0) (by omega) (by have := hB6.size; simp; omega) ?_; intro v7 w7 hown7 hg7; have hB7 := (hB6.alloc hB6.size _).grown hg7 (by have := hB6.size; simp; omega) (fun s e => (hown6.lt s e).1); rw [← nts_snoc] at hown7))
              go_roundw
              case rel => exact ⟨j + 1, by omega, by go_num, by rw [HN.out]; exact hown7, hB7⟩
              case measure => simp [intOf]; omega
          · obtain rfl : j = hs.length := by omega
            have hL2 := hL1.below hB2
            have hB4 := hB1.trans (hB2.mono hB1.size)
            have hon := own_mono hown hB1.size
            rw [HEN.out] at hon
            obtain ⟨A2, c2, rfl⟩ := own_slice hon
            clear hown hB2 hL1 bE hB1
            go_wp2_with (at_builtin; refine ap_list (hL2.alloc _) (hon.alloc _) rfl _ _ rfl rfl _ rfl ((Blk.new _ _ _).cell 0) (own_one hon) (by rw [HLE.out]; omega) (by have := hB4.size; simp; omega) ?_; intro v3 w3 hL3 hb3 hk3; have hB5 := (hB4.alloc hB4.size _).trans hb3)
            go_roundw
            case rel => exact ⟨k + 1, by omega, by go_num, by rw [HS.out]; exact hL3, hB5⟩
            case measure => simp [intOf]; omega
      · obtain rfl : k = ss.length := by omega
        go_wp2
        go_ret2
        exact ⟨_, rfl, by rw [HL.out]; exact hL, hB⟩
  · have hne : (bothE ss hs != 0) = true := bne_iff_ne.2 hb
    have HL : Hid (ftLL ss hs = []) := Lib.hid (if_neg hb)
    clear hb
    generalize bothE ss hs = E at *
    generalize ftLL ss hs = R at *
    go_enter Tryd.func14, Tryd.ntmps14
    go_wp2_with (go_at_call 41; refine H1.out.mono ?_; rintro e w1 ⟨rfl, hb1⟩)
    go_ret2
    exact ⟨_, rfl, by rw [HL.out]; exact Lol.nil _ _, hb1⟩
end Go.Proofs.YtghbipipehglfaaDoor
