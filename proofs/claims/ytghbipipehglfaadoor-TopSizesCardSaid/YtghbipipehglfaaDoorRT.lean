/- TopSizes: its texts in one (mergetop.py). -/
import Derived.Test.YtghbipipehglfaaDoorA4
import Derived.Test.YtghbipipehglfaaDoorP1
import Derived.Test.YtghbipipehglfaaDoorP3
import Derived.Test.YtghbipipehglfaaDoorA12
import Derived.Test.YtghbipipehglfaaDoorC13
import Derived.Test.YtghbipipehglfaaDoorC10
import Derived.Test.YtghbipipehglfaaDoorB4
import Derived.Test.YtghbipipehglfaaDoorD2
import Derived.Test.YtghbipipehglfaaDoorD1
import Derived.Test.YtghbipipehglfaaDoorC7
import Derived.Test.YtghbipipehglfaaDoorA13
import Derived.Test.YtghbipipehglfaaDoorC9
import Derived.Test.YtghbipipehglfaaDoorC17
import Derived.Test.YtghbipipehglfaaDoorB3
import Derived.Test.YtghbipipehglfaaDoorRB
namespace Go.Proofs.YtghbipipehglfaaDoor
open Go.RowKit Go.Shelf

theorem mul_bd {a b A B : Int} (ha : -A ≤ a) (ha' : a ≤ A) (hb : -B ≤ b) (hb' : b ≤ B) : -(A * B) ≤ a * b ∧ a * b ≤ A * B := by
  have h1 : a.natAbs ≤ A.natAbs := by omega
  have h2 : b.natAbs ≤ B.natAbs := by omega
  have h3 := Nat.mul_le_mul h1 h2
  rw [← Int.natAbs_mul, ← Int.natAbs_mul] at h3
  have hA : 0 ≤ A := by omega
  have hB : 0 ≤ B := by omega
  have := Int.mul_nonneg hA hB
  omega
theorem szA_ext {s t : Pl.Sz} (h1 : s.code = t.code) (h2 : ∀ i, i < 5 → s.fr i = t.fr i) (h3 : ∀ i, i < 5 → s.up i = t.up i) (h4 : ∀ i, i < 5 → s.bd i = t.bd i) (h5 : s.tot = t.tot) : szA s = szA t := by
  simp only [szA, h1, h5, h2 0 (by omega), h2 1 (by omega), h2 2 (by omega), h2 3 (by omega), h2 4 (by omega), h3 0 (by omega), h3 1 (by omega), h3 2 (by omega), h3 3 (by omega), h3 4 (by omega), h4 0 (by omega), h4 1 (by omega), h4 2 (by omega), h4 3 (by omega), h4 4 (by omega)]
theorem szA_fr (s : Pl.Sz) {k : Nat} (hk : k < 5) (v : Int) : (szA s).setIfInBounds (1 + k) (.int .i64 v) = szA { s with fr := fun i => if i = k then v else s.fr i } :=
  five (p := fun k => (szA s).setIfInBounds (1 + k) (.int .i64 v) = szA { s with fr := fun i => if i = k then v else s.fr i }) hk rfl rfl rfl rfl rfl
theorem szA_up (s : Pl.Sz) {k : Nat} (hk : k < 5) (v : Int) : (szA s).setIfInBounds (6 + k) (.int .i64 v) = szA { s with up := fun i => if i = k then v else s.up i } :=
  five (p := fun k => (szA s).setIfInBounds (6 + k) (.int .i64 v) = szA { s with up := fun i => if i = k then v else s.up i }) hk rfl rfl rfl rfl rfl
theorem szA_code (s : Pl.Sz) (v : Int) : (szA s).setIfInBounds 0 (.int .i64 v) = szA { s with code := v } := rfl
/-- the size when k measures have been raised -/
def mid (c : Int) (s : Pl.Sz) (st : Nat → Int) (n : Int) (k : Nat) : Pl.Sz := ⟨c, fun i => if i < k then s.fr i + n * st i else s.fr i, fun i => if i < k then s.up i + n * st i else s.up i, s.bd, s.tot⟩
theorem mid_zero (s : Pl.Sz) (st : Nat → Int) (n : Int) : szA (mid s.code s st n 0) = szA s := rfl
theorem mid_code (c d : Int) (s : Pl.Sz) (st : Nat → Int) (n : Int) (k : Nat) : (szA (mid c s st n k)).setIfInBounds 0 (.int .i64 d) = szA (mid d s st n k) := rfl
theorem mid_fr (c : Int) (s : Pl.Sz) (st : Nat → Int) (n : Int) (k : Nat) : (mid c s st n k).fr k = s.fr k := if_neg (by omega)
theorem mid_up (c : Int) (s : Pl.Sz) (st : Nat → Int) (n : Int) (k : Nat) : (mid c s st n k).up k = s.up k := if_neg (by omega)
theorem mid_step (c : Int) (s : Pl.Sz) (st : Nat → Int) (n : Int) {k : Nat} (hk : k < 5) : ((szA (mid c s st n k)).setIfInBounds (1 + k) (.int .i64 (s.fr k + n * st k))).setIfInBounds (6 + k) (.int .i64 (s.up k + n * st k)) = szA (mid c s st n (k + 1)) := by
  rw [szA_fr _ hk, szA_up _ hk]
  refine szA_ext rfl (fun i _ => ?_) (fun i _ => ?_) (fun _ _ => rfl) rfl
  · show (if i = k then _ else if i < k then _ else _) = if i < k + 1 then _ else _
    by_cases e : i = k
    · rw [if_pos e, if_pos (by omega), e]
    · rw [if_neg e]
      by_cases e2 : i < k
      · rw [if_pos e2, if_pos (by omega)]
      · rw [if_neg e2, if_neg (by omega)]
  · show (if i = k then _ else if i < k then _ else _) = if i < k + 1 then _ else _
    by_cases e : i = k
    · rw [if_pos e, if_pos (by omega), e]
    · rw [if_neg e]
      by_cases e2 : i < k
      · rw [if_pos e2, if_pos (by omega)]
      · rw [if_neg e2, if_neg (by omega)]
theorem mid_all (s : Pl.Sz) (st : Nat → Int) (n : Int) : szA (mid (s.code + n) s st n 5) = szA (Pl.grd s st n) :=
  szA_ext rfl (fun _ hi => if_pos hi) (fun _ hi => if_pos hi) (fun _ _ => rfl) rfl
theorem grade_err {s : Pl.Sz} {st : Nat → Int} {n c : Int} (he : Pl.gE s st n = c) (hc : c ≠ 0) : Ending.returned (.tuple #[.agg (szA Pl.zsz), .int .i64 c]) = Ending.returned (.tuple #[.agg (szA (Pl.gV s st n)), .int .i64 (Pl.gE s st n)]) := by
  rw [Pl.gV_no (by rw [he]; exact hc), he]
theorem grade_ok {s : Pl.Sz} {st : Nat → Int} {n : Int} (he : Pl.gE s st n = 0) : Ending.returned (.tuple #[.agg (szA (Pl.grd s st n)), .int .i64 0]) = Ending.returned (.tuple #[.agg (szA (Pl.gV s st n)), .int .i64 (Pl.gE s st n)]) := by
  rw [Pl.gV_ok he, he]

set_option maxRecDepth 100000 in
set_option maxHeartbeats 4000000 in
theorem dgrade_any (s : Pl.Sz) (st : Nat → Int) (n : Int) (w : World) :
    Calls Tryd.prog 71 #[.agg (szA s), .agg (a5A st), .int .i64 n] w fun e w' => e = .returned (.tuple #[.agg (szA (Pl.gV s st n)), .int .i64 (Pl.gE s st n)]) ∧ Below w.heap.size w w' := by
  have hB := (((Below.refl w.heap.size w).alloc (Nat.le_refl _) (.cells (szA s) 46)).alloc (by simp) (.cells (a5A st) 32)).alloc (by simp; omega) (.cells (szA Pl.zsz) 46)
  have bS := ((Blk.new w 46 (szA s)).alloc (.cells (a5A st) 32)).alloc (.cells (szA Pl.zsz) 46)
  have bT := (Blk.new (w.alloc (.cells (szA s) 46)) 32 (a5A st)).alloc (.cells (szA Pl.zsz) 46)
  have bR := Blk.new ((w.alloc (.cells (szA s) 46)).alloc (.cells (a5A st) 32)) 46 (szA Pl.zsz)
  simp only [World.size_alloc] at bT bR
  have hS := bS.lt
  have hT := bT.lt
  have hR := bR.lt
  cases hs : Pl.vsz s with
  | false =>
    have HS := Lib.hid hs
    have HE := Lib.hid (Pl.gE_size (st := st) (n := n) hs)
    clear hs
    go_enter Tryd.func71, Tryd.ntmps71
    go_wp2_with (first | refine ld_size (by assumption) rfl _ rfl rfl ?_ | (go_at_call 32; refine (vsize_b s false HS.out _).mono ?_; rintro e w1 ⟨rfl, hb1⟩; have hB1 := hB.trans (hb1.mono hB.size); have bR1 := bR.below hb1 hR) | (refine st_size (s := Pl.zsz) bR1 rfl rfl _ _ rfl rfl rfl ?_; intro w2 bR2 hO))
    exact bodyPost_ret (v := .tuple #[.agg (szA Pl.zsz), .int .i64 31]) (results_cell_tmp (q := 7) rfl _ _ _ _ _ _ _ rfl bR2 Tryd.underlying46 rfl info24) rfl ⟨grade_err HE.out (by decide), hB1.trans (hO.below (by omega))⟩
  | true =>
    cases hn : Pl.inB n (-20) 20 with
    | false =>
      have HS := Lib.hid hs
      have HN := Lib.hid hn
      have HE := Lib.hid (Pl.gE_arg (st := st) hs (fun h => by rw [h.1] at hn; cases hn))
      clear hs hn
      go_enter Tryd.func71, Tryd.ntmps71
      go_wp2_with (first | refine ld_size (by assumption) rfl _ rfl rfl ?_ | (go_at_call 32; refine (vsize_b s true HS.out _).mono ?_; rintro e w1 ⟨rfl, hb1⟩; have hB1 := hB.trans (hb1.mono hB.size); have bR1 := bR.below hb1 hR) | (go_at_call 72; refine (within_b _ _ _ false HN.out _).mono ?_; rintro e w' ⟨rfl, rfl⟩) | (refine st_size (s := Pl.zsz) bR1 rfl rfl _ _ rfl rfl rfl ?_; intro w2 bR2 hO))
      exact bodyPost_ret (v := .tuple #[.agg (szA Pl.zsz), .int .i64 2]) (results_cell_tmp (q := 7) rfl _ _ _ _ _ _ _ rfl bR2 Tryd.underlying46 rfl info24) rfl ⟨grade_err HE.out (by decide), hB1.trans (hO.below (by omega))⟩
    | true =>
      have HS := Lib.hid hs
      have HN := Lib.hid hn
      have HSB := Lib.hid (Pl.vsz_true.1 hs)
      obtain ⟨n1, n2⟩ := Pl.inB_true.1 hn
      clear hs hn
      go_enter Tryd.func71, Tryd.ntmps71
      go_wp2_with (first | refine ld_size (by assumption) rfl _ rfl rfl ?_ | (go_at_call 32; refine (vsize_b s true HS.out _).mono ?_; rintro e w1 ⟨rfl, hb1⟩; have hB1 := hB.trans (hb1.mono hB.size); have bS1 := bS.below hb1 hS; have bT1 := bT.below hb1 hT; have bR1 := bR.below hb1 hR; clear hB bS bT bR hS hT hR hb1) | (go_at_call 72; refine (within_b _ _ _ true HN.out _).mono ?_; rintro e w' ⟨rfl, rfl⟩) | refine ld_five (by assumption) rfl _ rfl rfl ?_)
      go_loopw [8, 9, 19] (fun _ _ i wr => ∃ k : Nat, k ≤ 5 ∧ i = .int .i64 k ∧ Hid (Pl.allK (Pl.stI st) k = true) ∧ Blk wr w.heap.size 46 (szA (mid s.code s st n k)) ∧ Blk wr (w.heap.size + 1 + 1) 46 (szA Pl.zsz) ∧ Below w.heap.size w wr) (fun _ _ i _ => 5 - (intOf i).toNat)
      case atStart => exact ⟨0, by omega, rfl, Lib.hid rfl, bS1, bR1, hB1⟩
      case round =>
        clear bS1 bT1 bR1 hB1
        obtain ⟨k, hk, rfl, hall, bS, bR, hB⟩ := hrel
        by_cases hlt : k < 5
        · have hix := idx5 st hlt
          cases hd : Pl.stI st k with
          | false =>
            have HD := Lib.hid hd
            have HE := Lib.hid (Pl.gE_arg (st := st) (n := n) HS.out (fun h => by rw [Pl.allK_false hlt hd] at h; cases h.2.1))
            clear hd bS
            go_wp2_with (first | (go_at_call 72; refine (within_b _ _ _ false HD.out _).mono ?_; rintro e w' ⟨rfl, rfl⟩) | (refine st_size (s := Pl.zsz) bR rfl rfl _ _ rfl rfl rfl ?_; intro w2 bR2 hO))
            exact bodyPost_ret (v := .tuple #[.agg (szA Pl.zsz), .int .i64 2]) (results_cell_tmp (q := 7) rfl _ _ _ _ _ _ _ rfl bR2 Tryd.underlying46 rfl info24) rfl ⟨grade_err HE.out (by decide), hB.trans (hO.below (by omega))⟩
          | true =>
            obtain ⟨d1, d2⟩ := Pl.inB_true.1 hd
            have HD := Lib.hid hd
            obtain ⟨p1, p2⟩ := mul_bd (a := n) (b := st k) (A := 20) (B := 300) (by omega) (by omega) (by omega) (by omega)
            obtain ⟨a1, a2, a3, _, _⟩ := HSB.out.1 k hlt
            have q1 := bS.fr hlt
            have q2 := bS.up hlt
            rw [mid_fr] at q1
            rw [mid_up] at q2
            have r1 := bS.frozen (1 + k)
            have r2 := bS.frozen (6 + k)
            have HBS := Lib.hid bS
            have hne : ¬ 1 + k = 6 + k := by omega
            clear hd bS
            go_wp2_with (go_at_call 72; refine (within_b _ _ _ true HD.out _).mono ?_; rintro e w' ⟨rfl, rfl⟩)
            have bS2 := (HBS.out.set_ (1 + k) (.int .i64 (s.fr k + n * st k))).set_ (6 + k) (.int .i64 (s.up k + n * st k))
            rw [mid_step _ _ _ _ hlt] at bS2
            have bR2 := (bR.far (p := ⟨w.heap.size, 1 + k, none⟩) (by simp; omega) (.int .i64 (s.fr k + n * st k))).far (p := ⟨w.heap.size, 6 + k, none⟩) (by simp; omega) (.int .i64 (s.up k + n * st k))
            have hB2 := (hB.setCell (p := ⟨w.heap.size, 1 + k, none⟩) (by simp) (.int .i64 (s.fr k + n * st k))).setCell (p := ⟨w.heap.size, 6 + k, none⟩) (by simp) (.int .i64 (s.up k + n * st k))
            go_roundw
            case rel => exact ⟨k + 1, by omega, by go_num, Lib.hid (Pl.allK_succ hall.out HD.out), bS2, bR2, hB2⟩
            case measure => simp [intOf]; omega
        · obtain rfl : k = 5 := by omega
          have q1 : wr.cell? ⟨w.heap.size, 0, none⟩ = some (.int .i64 s.code) := bS.code
          have r1 := bS.frozen 0
          have HBS := Lib.hid bS
          obtain ⟨c1, c2⟩ := HSB.out.2.1
          obtain ⟨b, hb⟩ : ∃ b, Pl.vsz (Pl.grd s st n) = b := ⟨_, rfl⟩
          have HV := Lib.hid hb
          clear hb bS
          have bS2 := HBS.out.set_ 0 (.int .i64 (s.code + n))
          rw [mid_code, mid_all] at bS2
          have bR2 := bR.far (p := ⟨w.heap.size, 0, none⟩) (by simp; omega) (.int .i64 (s.code + n))
          have hB2 := hB.setCell (p := ⟨w.heap.size, 0, none⟩) (by simp) (.int .i64 (s.code + n))
          have hR2 := bR2.lt
          have hS2 := bS2.lt
          have HALL := Lib.hid hall.out
          have HBR := Lib.hid bR2
          clear bR hB hall bR2
          cases b with
          | false =>
            have HE := Lib.hid (Pl.gE_arg (st := st) (n := n) HS.out (fun h => by rw [HV.out] at h; cases h.2.2))
            go_wp2_with (first | refine ld_size bS2 rfl _ rfl rfl ?_ | (go_at_call 32; refine (vsize_b (Pl.grd s st n) false HV.out _).mono ?_; rintro e w1 ⟨rfl, hb1⟩; have hB3 := hB2.trans (hb1.mono hB2.size); have bR3 := HBR.out.below hb1 hR2) | (refine st_size (s := Pl.zsz) bR3 rfl rfl _ _ rfl rfl rfl ?_; intro w2 bR4 hO))
            exact bodyPost_ret (v := .tuple #[.agg (szA Pl.zsz), .int .i64 2]) (results_cell_tmp (q := 7) rfl _ _ _ _ _ _ _ rfl bR4 Tryd.underlying46 rfl info24) rfl ⟨grade_err HE.out (by decide), hB3.trans (hO.below (by omega))⟩
          | true =>
            have HE := Lib.hid (Pl.gE_ok.2 ⟨HS.out, HN.out, HALL.out, HV.out⟩)
            go_wp2_with (first | refine ld_size bS2 rfl _ rfl rfl ?_ | (go_at_call 32; refine (vsize_b (Pl.grd s st n) true HV.out _).mono ?_; rintro e w1 ⟨rfl, hb1⟩; have hB3 := hB2.trans (hb1.mono hB2.size); have bR3 := HBR.out.below hb1 hR2; have bS3 := bS2.below hb1 hS2) | refine ld_size bS3 rfl _ rfl rfl ?_ | (refine st_size (s := Pl.grd s st n) bR3 rfl rfl _ _ rfl rfl rfl ?_; intro w2 bR4 hO))
            exact bodyPost_ret (v := .tuple #[.agg (szA (Pl.grd s st n)), .int .i64 0]) (results_cell_tmp (q := 7) rfl _ _ _ _ _ _ _ rfl bR4 Tryd.underlying46 rfl info24) rfl ⟨grade_ok HE.out, hB3.trans (hO.below (by omega))⟩
end Go.Proofs.YtghbipipehglfaaDoor
/- Plain: the best of the open values; how long what runs is. It imports nothing of the program. -/
namespace Go.Proofs.YtghbipipehglfaaDoor.Pl

theorem sprd_fold (w : Int) (hw : 0 ≤ w) (d : List Int) : ∀ st : List Int, ∀ s, s ∈ d.foldl (sprdW w hw).one st → s ∈ st ∨ s ∈ d := by
  induction d with
  | nil => intro st s hs; exact .inl hs
  | cons v d ih =>
    intro st s hs
    rcases ih _ s hs with h | h
    · unfold Way.one at h
      split at h
      · rcases List.mem_append.1 h with h | h
        · exact .inl h
        · right
          have : s = v := by simpa [sprdW] using h
          rw [this]; exact List.mem_cons_self ..
      · exact .inl h
    · exact .inr (List.mem_cons_of_mem _ h)
theorem sprd_all_mem {w : Int} {hw : 0 ≤ w} {d : List Int} {s : Int} (h : s ∈ (sprdW w hw).all d) : s ∈ d := by
  rcases sprd_fold w hw d [] s h with h | h
  · cases h
  · exact h
theorem Runs.len_le {A : Way} {vs st fin : List Int} (h : Runs A vs st fin) : st.length ≤ fin.length := by
  induction h with
  | done _ => exact Nat.le_refl _
  | step _ _ _ _ ih => simp at ih; omega

/-- the best of the first k values that are open -/
def bstK (P : Int → Bool) (gt : Int → Int → Bool) (vs : List Int) : Nat → Option Int
  | 0 => none
  | k + 1 => if P (vs.getD k 0) = true ∧ (∀ t, bstK P gt vs k = some t → gt (vs.getD k 0) t = true) then some (vs.getD k 0) else bstK P gt vs k
theorem bstK_none {P : Int → Bool} {gt : Int → Int → Bool} {vs : List Int} : ∀ {k : Nat}, bstK P gt vs k = none → ∀ i, i < k → P (vs.getD i 0) = false := by
  intro k
  induction k with
  | zero => intro _ i hi; omega
  | succ k ih =>
    intro h i hi
    unfold bstK at h
    split at h
    · cases h
    · rename_i hn
      have h0 := ih h
      by_cases e : i = k
      · subst e
        cases hp : P (vs.getD i 0) with
        | false => rfl
        | true => exact absurd ⟨hp, fun t ht => by rw [h] at ht; cases ht⟩ hn
      · exact h0 i (by omega)
theorem bstK_some {P : Int → Bool} {gt : Int → Int → Bool} (hir : ∀ a, gt a a = false) (hto : ∀ a b c, gt a b = false → gt c b = true → gt a c = false) {vs : List Int} : ∀ {k : Nat} {t : Int}, bstK P gt vs k = some t →
    (∃ i, i < k ∧ vs.getD i 0 = t) ∧ P t = true ∧ ∀ i, i < k → P (vs.getD i 0) = true → gt (vs.getD i 0) t = false := by
  intro k
  induction k with
  | zero => intro t h; cases h
  | succ k ih =>
    intro t h
    unfold bstK at h
    split at h
    · rename_i hc
      cases h
      refine ⟨⟨k, by omega, rfl⟩, hc.1, fun i hi hp => ?_⟩
      by_cases e : i = k
      · subst e; exact hir _
      · cases hb : bstK P gt vs k with
        | none => rw [bstK_none hb i (by omega)] at hp; cases hp
        | some t' => exact hto _ _ _ ((ih hb).2.2 i (by omega) hp) (hc.2 t' hb)
    · rename_i hn
      obtain ⟨⟨i, hi, he⟩, h2, h3⟩ := ih h
      refine ⟨⟨i, by omega, he⟩, h2, fun j hj hp => ?_⟩
      by_cases e : j = k
      · subst e
        cases hg : gt (vs.getD j 0) t with
        | false => rfl
        | true => exact absurd ⟨hp, fun t' ht' => by rw [h] at ht'; cases ht'; exact hg⟩ hn
      · exact h3 j (by omega) hp

/-- one round of the document's Stab: nothing is open, or the greatest -/
def sOpn (st : List Int) (v : Int) : Bool := match st.getLast? with | none => true | some a => decide (v < a)
def sGt (u t : Int) : Bool := decide (t < u)
theorem stab_none {w : Int} {hw : 0 ≤ w} {vs st fin : List Int} (hr : Runs (stabW w hw) vs st fin) (h : bstK (sOpn st) sGt vs vs.length = none) : fin = st :=
  hr.of_done fun v hv => by
    obtain ⟨i, hi, rfl⟩ := mem_getD hv
    exact bstK_none h i hi
theorem stab_some {w : Int} {hw : 0 ≤ w} {vs st fin : List Int} {t : Int} (hr : Runs (stabW w hw) vs st fin) (h : bstK (sOpn st) sGt vs vs.length = some t) : t ∈ vs ∧ Runs (stabW w hw) vs (st ++ [t - w]) fin := by
  obtain ⟨⟨i, hi, he⟩, h2, h3⟩ := bstK_some (by intro a; simp [sGt]) (by intro a b c h1 h2; simp [sGt] at *; omega) h
  have hm : t ∈ vs := he ▸ getD_mem hi
  refine ⟨hm, hr.of_step hm h2 fun u hu ho => ?_⟩
  obtain ⟨j, hj, rfl⟩ := mem_getD hu
  have := h3 j hj ho
  simp [sGt] at this
  simpa [stabW] using this
/-- one round of the document's Spread -/
def pOpn (w : Int) (st : List Int) (v : Int) : Bool := match st.getLast? with | none => true | some a => decide (a + w < v)
def pGt (u t : Int) : Bool := decide (u < t)
theorem sprd_none {w : Int} {hw : 0 ≤ w} {vs st fin : List Int} (hr : Runs (sprdW w hw) vs st fin) (h : bstK (pOpn w st) pGt vs vs.length = none) : fin = st :=
  hr.of_done fun v hv => by
    obtain ⟨i, hi, rfl⟩ := mem_getD hv
    exact bstK_none h i hi
theorem sprd_some {w : Int} {hw : 0 ≤ w} {vs st fin : List Int} {t : Int} (hr : Runs (sprdW w hw) vs st fin) (h : bstK (pOpn w st) pGt vs vs.length = some t) : t ∈ vs ∧ Runs (sprdW w hw) vs (st ++ [t]) fin := by
  obtain ⟨⟨i, hi, he⟩, h2, h3⟩ := bstK_some (by intro a; simp [pGt]) (by intro a b c h1 h2; simp [pGt] at *; omega) h
  have hm : t ∈ vs := he ▸ getD_mem hi
  refine ⟨hm, hr.of_step hm h2 fun u hu ho => ?_⟩
  obtain ⟨j, hj, rfl⟩ := mem_getD hu
  have := h3 j hj ho
  simp [pGt] at this
  simpa [sprdW] using this
end Go.Proofs.YtghbipipehglfaaDoor.Pl
/- Spread: the program's. -/
namespace Go.Proofs.YtghbipipehglfaaDoor
open Go.RowKit Go.Shelf

theorem values_any (a : Option Addr) (len cap : Nat) (w : World) :
    Calls Tryd.prog 82 #[.slice a len cap] w fun e w' => e = .returned (.func (.func 95) #[] #[.pointer (some ⟨w.heap.size, 0, none⟩)]) ∧ w' = w.alloc (.cells #[.slice a len cap] 31) :=
  (callsIn_wide (n := 1)).1 (values_in 1 a len cap w)
/-- what Spread has when k values have come -/
def spF (x : Int) (hx : 0 ≤ x) (zs : List Int) (k : Nat) : List Int := (Pl.sprdW x hx).all (zs.take k)
theorem spF_succ (x : Int) (hx : 0 ≤ x) (zs : List Int) {k : Nat} (hk : k < zs.length) : spF x hx zs (k + 1) = (Pl.sprdW x hx).one (spF x hx zs k) (zs.getD k 0) := by
  unfold spF
  have : zs.take (k + 1) = zs.take k ++ [zs.getD k 0] := by
    rw [List.take_succ_eq_append_getElem hk, List.getD_eq_getElem?_getD, List.getElem?_eq_getElem hk]; rfl
  rw [this, Pl.Way.all_snoc]
theorem spF_len (x : Int) (hx : 0 ≤ x) (zs : List Int) (k : Nat) : (spF x hx zs k).length ≤ k := by
  have := (Pl.sprdW x hx).all_len (zs.take k)
  have h2 : (zs.take k).length ≤ k := List.length_take_le ..
  unfold spF
  omega
theorem spF_mem {x : Int} {hx : 0 ≤ x} {zs : List Int} {k : Nat} {s : Int} (h : s ∈ spF x hx zs k) : s ∈ zs := List.mem_of_mem_take (Pl.sprd_all_mem h)
/-- what Spread gives -/
def sprdV (x : Int) (vs : List Int) : List Int := if Pl.lineE vs x [] = 0 then Pl.sprdT x vs else []

set_option maxRecDepth 100000 in
set_option maxHeartbeats 4000000 in
theorem spread_any (A : Option Addr) (vs : List Int) (c : Nat) (x : Int) (w : World) (hI : Ints w A vs) :
    Calls Tryd.prog 66 #[.slice A vs.length c, .int .i64 x] w fun e w' => ∃ v, e = .returned (.tuple #[v, .int .i64 (Pl.lineE vs x [])]) ∧ w'.ownsRow w.heap.size 3 1 v (sprdV x vs).length (ints (sprdV x vs)) ∧ Below w.heap.size w w' := by
  have HI := Lib.hid hI
  clear hI
  rcases Pl.lineE_three vs x [] with h0 | h0 | h0
  rotate_left
  iterate 2
    · have HR := Lib.hid h0
      have HS : Hid (sprdV x vs = []) := Lib.hid (if_neg (by rw [h0]; decide))
      rw [h0]
      clear h0
      go_enter Tryd.func66, Tryd.ntmps66
      go_wp2_with (go_at_call 79; refine (checkline_any A none vs [] c 0 x _ HI.out (Ints.nil _ _)).mono ?_; rw [HR.out]; rintro e w' ⟨rfl, rfl⟩)
      go_ret2
      exact ⟨_, rfl, by rw [HS.out]; exact World.ownsRow_nil _ _ _ _, Below.refl _ _⟩
  · obtain ⟨hl200, _, hvs, _, hx0, hx1⟩ := Pl.lineE_zero h0
    have HV := Lib.hid hvs
    have H0 := Lib.hid h0
    rw [h0, show sprdV x vs = Pl.sprdT x vs from if_pos h0]
    clear hvs h0
    have hB1 : Below w.heap.size w (w.alloc (.cells #[.slice A vs.length c] 31)) := (Below.refl _ w).alloc (Nat.le_refl _) _
    have bV := Blk.new w 31 #[.slice A vs.length c]
    have HVal := Lib.hid (sortedv_any _ A c vs (by omega) _ bV (HI.out.below hB1))
    clear bV
    go_enter Tryd.func66, Tryd.ntmps66
    go_wp2_with (first
      | (go_at_call 79; refine (checkline_any A none vs [] c 0 x _ HI.out (Ints.nil _ _)).mono ?_; rw [H0.out]; rintro e w' ⟨rfl, hw'⟩; obtain rfl : w = w' := hw'.symm)
      | (go_at_call 82; refine (values_any _ _ _ _).mono ?_; rintro e w' ⟨rfl, rfl⟩)
      | (go_at_call 81; refine HVal.out.mono ?_; rintro e w4 ⟨vz, rfl, hownz, hb4⟩; obtain ⟨Az, cz, rfl⟩ := own_slice hownz))
    have hbel4 : Below w.heap.size w w4 := hB1.trans (hb4.mono (by simp))
    obtain ⟨zs, hzs⟩ : ∃ zs, zs = Pl.srt vs := ⟨_, rfl⟩
    have hzl : zs.length = vs.length := by rw [hzs, Pl.srt_len]
    have hII := ints_of_owns' hownz hzl.symm (by rw [hzs])
    have HZB : Hid (∀ s, s ∈ zs → -1000000 ≤ s ∧ s ≤ 1000000) := Lib.hid (fun s hs => HV.out _ ((Pl.srt_mem vs _).1 (hzs ▸ hs)))
    have HFIN : Hid (spF x hx0 zs zs.length = Pl.sprdT x vs) := Lib.hid (by unfold spF; rw [List.take_length, hzs, Pl.sprdT_eq hx0])
    have HII := Lib.hid hII
    have HZL := Lib.hid hzl
    have hll : zs.length ≤ 200 := by omega
    rw [← hzl]
    clear hzs hownz hb4 hB1 HVal hII hzl hl200
    go_loopw [7, 9, 20] (fun v _ i wr => ∃ k : Nat, k ≤ zs.length ∧ i = .int .i64 k ∧ wr.ownsRow w4.heap.size 3 1 v (spF x hx0 zs k).length (ints (spF x hx0 zs k)) ∧ Below w4.heap.size w4 wr) (fun _ _ i _ => zs.length - (intOf i).toNat)
    case atStart => exact ⟨0, Nat.zero_le _, rfl, World.ownsRow_nil _ _ _ _, Below.refl _ _⟩
    case round =>
      obtain ⟨k, hk, rfl, hown, hB⟩ := hrel
      by_cases hlt : k < zs.length
      · obtain ⟨bz, oz, rfl, hcz⟩ : ∃ bb off, Az = some ⟨bb, off, none⟩ ∧ wr.cell? ⟨bb, off + k, none⟩ = some (.int .i64 (zs.getD k 0)) := by
          rcases HII.out.below hB with h | ⟨bb, off, he, _, hc⟩
          · rw [h] at hlt; simp at hlt
          · exact ⟨bb, off, he, hc k hlt⟩
        have HSN := Lib.hid (spF_succ x hx0 zs hlt)
        have hln := spF_len x hx0 zs k
        obtain ⟨a1, a2⟩ := HZB.out _ (Pl.getD_mem hlt)
        have HMEM : Hid (∀ s, s ∈ spF x hx0 zs k → -1000000 ≤ s ∧ s ≤ 1000000) := Lib.hid (fun s hs => HZB.out s (spF_mem hs))
        generalize zs.getD k 0 = y at *
        generalize spF x hx0 zs k = q at *
        rcases List.eq_nil_or_concat q with rfl | ⟨p, s, rfl⟩
        · obtain ⟨A1, c1, rfl⟩ := own_slice hown
          have HQ : Hid ((Pl.sprdW x hx0).one [] y = [] ++ [y]) := Lib.hid (if_pos rfl)
          simp only [List.length_nil] at hown
          go_wp2_with (at_builtin; refine ap_int (l := []) (n := y) (hown.alloc _) rfl _ _ rfl rfl _ rfl ((Blk.new _ _ _).cell 0) (by simp) (by have := hB.size; simp; omega) ?_; intro v' w3 hown' hgrow; have hB2 := (hB.alloc hB.size _).grown hgrow (by have := hB.size; simp; omega) (fun k e => (hown.lt k e).1))
          go_roundw
          case rel => exact ⟨k + 1, by omega, by go_num, by rw [HSN.out, HQ.out]; exact hown', hB2⟩
          case measure => simp [intOf]; omega
        · rw [List.concat_eq_append] at *
          have hown0 := hown
          have hpl : (p ++ [s]).length = p.length + 1 := by simp
          rw [hpl] at hown hln
          obtain ⟨g, cap, rfl⟩ := ownsRow_succ hown
          obtain ⟨s1, s2⟩ := HMEM.out s (by simp)
          have hcs : wr.cell? ⟨g, p.length, none⟩ = some (.int .i64 s) := by
            rw [hown.cellAt p.length (by omega)]
            simp [ints]
          have HOWN : Hid (wr.ownsRow w4.heap.size 3 1 (.slice (some ⟨g, 0, none⟩) (p.length + 1) cap) (p ++ [s]).length (ints (p ++ [s]))) := Lib.hid (by rw [hpl]; exact hown)
          clear hpl hown hown0
          have hpe : ((p.length : Int) + 1 == 0) = false := by simp; omega
          by_cases hys : s + x < y
          · have HQ : Hid ((Pl.sprdW x hx0).one (p ++ [s]) y = p ++ [s] ++ [y]) := Lib.hid (by
              unfold Pl.Way.one; rw [List.getLast?_concat, if_pos (by simp [Pl.sprdW, hys])]; rfl)
            have hpl2 : (p ++ [s]).length ≤ 100000 := by simp; omega
            go_wp2_with (at_builtin; refine ap_int (l := p ++ [s]) (n := y) (HOWN.out.alloc _) rfl _ _ rfl rfl _ rfl ((Blk.new _ _ _).cell 0) hpl2 (by have := hB.size; simp; omega) ?_; intro v' w3 hown' hgrow; have hB2 := (hB.alloc hB.size _).grown hgrow (by have := hB.size; simp; omega) (fun k e => (HOWN.out.lt k e).1))
            go_roundw
            case rel => exact ⟨k + 1, by omega, by go_num, by rw [HSN.out, HQ.out]; exact hown', hB2⟩
            case measure => simp [intOf]; omega
          · have hsy : y ≤ s + x := by omega
            have HQ : Hid ((Pl.sprdW x hx0).one (p ++ [s]) y = p ++ [s]) := Lib.hid (by
              unfold Pl.Way.one; rw [List.getLast?_concat, if_neg (by simp [Pl.sprdW]; omega)])
            clear hys
            go_wp2
            go_roundw
            case rel => exact ⟨k + 1, by omega, by go_num, by rw [HSN.out, HQ.out]; exact HOWN.out, hB⟩
            case measure => simp [intOf]; omega
      · obtain rfl : k = zs.length := by omega
        go_wp2
        go_ret2
        exact ⟨_, rfl, by rw [← HFIN.out]; exact own_mono hown hbel4.size, hbel4.trans (hB.mono hbel4.size)⟩
end Go.Proofs.YtghbipipehglfaaDoor
/- TopSizes' sanity check; the numbers below n; Need, Fits and the sum of the needs. -/
namespace Go.Proofs.YtghbipipehglfaaDoor
open Go.RowKit Go.Shelf

theorem sprdT_fit : Pl.sprdT 3 [1, 2, 4, 7, 8] = [1, 7] := by
  have h0 := Pl.sprd_runs (w := 3) (by decide) [1, 2, 4, 7, 8]
  have h1 := h0.of_step (v := 1) (by decide) rfl (by intro u hu _; show 1 ≤ u; simp at hu; omega)
  have h2 := h1.of_step (v := 7) (by decide) (by decide) (by intro u hu ho; show 7 ≤ u; simp at hu; simp [Pl.sprdW] at ho; omega)
  exact h2.of_done (by intro u hu; simp at hu; simp [Pl.sprdW]; omega)
theorem sprdV_fit : sprdV 3 [1, 2, 4, 7, 8] = [1, 7] := by
  unfold sprdV
  rw [if_pos (by decide), sprdT_fit]

set_option maxRecDepth 100000 in
set_option maxHeartbeats 2000000 in
theorem fitting_any (w : World) : Calls Tryd.prog 27 #[] w fun e w' => e = .returned (.bool true) ∧ Below w.heap.size w w' := by
  have hB0 : Below w.heap.size w (w.alloc (.cells #[.int .i64 1, .int .i64 2, .int .i64 4, .int .i64 7, .int .i64 8] 3)) := (Below.refl _ w).alloc (Nat.le_refl _) _
  have b0 := Blk.new w 3 #[.int .i64 1, .int .i64 2, .int .i64 4, .int .i64 7, .int .i64 8]
  have hI : Ints (w.alloc (.cells #[.int .i64 1, .int .i64 2, .int .i64 4, .int .i64 7, .int .i64 8] 3)) (some ⟨w.heap.size, 0, none⟩) [1, 2, 4, 7, 8] :=
    .inr ⟨w.heap.size, 0, rfl, by simp, fun k hk => by
      rw [Nat.zero_add]
      exact five (p := fun k => (w.alloc (.cells #[.int .i64 1, .int .i64 2, .int .i64 4, .int .i64 7, .int .i64 8] 3)).cell? ⟨w.heap.size, k, none⟩ = some (.int .i64 ([1, 2, 4, 7, 8].getD k 0))) hk (b0.cell 0) (b0.cell 1) (b0.cell 2) (b0.cell 3) (b0.cell 4)⟩
  have hC := spread_any (some ⟨w.heap.size, 0, none⟩) [1, 2, 4, 7, 8] 5 3 _ hI
  rw [sprdV_fit, show Pl.lineE [1, 2, 4, 7, 8] 3 [] = 0 from by decide] at hC
  have HC := Lib.hid hC
  clear hC hI b0
  go_enter Tryd.func27, Tryd.ntmps27
  go_wp2_with (go_at_call 66; refine HC.out.mono ?_; rintro e w1 ⟨v, rfl, hown, hb1⟩; obtain ⟨A, c, rfl, hJ⟩ : ∃ A c, v = .slice A 2 c ∧ Ints w1 A [1, 7] := ints_of_owns (l := [1, 7]) hown; obtain ⟨b, o, rfl, hJ0, hJ1⟩ := hJ.resolve_left (by simp); have hc1 := hJ1 1 (by decide); simp only [List.getD_cons_succ, List.getD_cons_zero] at hc1)
  go_ret
  exact ⟨rfl, hB0.trans (hb1.mono hB0.size)⟩

set_option maxRecDepth 100000 in
set_option maxHeartbeats 2000000 in
theorem numbers_any (n : Nat) (hn : n ≤ 100) (w : World) :
    Calls Tryd.prog 69 #[.int .i64 n] w fun e w' => ∃ v, e = .returned v ∧ w'.ownsRow w.heap.size 3 1 v (nts (List.range n)).length (ints (nts (List.range n))) ∧ Below w.heap.size w w' := by
  go_enter Tryd.func69, Tryd.ntmps69
  go_wp2
  go_loopw [3, 4, 6] (fun v _ i wr => ∃ k : Nat, k ≤ n ∧ i = .int .i64 k ∧ wr.ownsRow w.heap.size 3 1 v (nts (List.range k)).length (ints (nts (List.range k))) ∧ Below w.heap.size w wr) (fun _ _ i _ => n - (intOf i).toNat)
  case atStart => exact ⟨0, Nat.zero_le _, rfl, World.ownsRow_nil _ _ _ _, Below.refl _ _⟩
  case round =>
    obtain ⟨k, hk, rfl, hown, hB⟩ := hrel
    obtain ⟨wo, rfl⟩ : ∃ wo, wo = wr := ⟨_, rfl⟩
    by_cases hlt : k < n
    · have HS : Hid (nts (List.range (k + 1)) = nts (List.range k) ++ [(k : Int)]) := Lib.hid (by rw [List.range_succ, nts_snoc])
      have hlen : (nts (List.range k)).length ≤ 100000 := by rw [nts_len, List.length_range]; omega
      generalize nts (List.range k) = L at *
      go_wp2_with (at_builtin; refine ap_int (n := (k : Int)) (hown.alloc _) rfl _ _ rfl rfl _ rfl ((Blk.new _ _ _).cell 0) hlen (by have := hB.size; simp; omega) ?_; intro v2 w2 hown2 hg2; have hB4 := (hB.alloc hB.size _).grown hg2 (by have := hB.size; simp; omega) (fun s e => (hown.lt s e).1))
      go_roundw
      case rel => exact ⟨k + 1, by omega, by go_num, by rw [HS.out]; exact hown2, hB4⟩
      case measure => simp [intOf]; omega
    · obtain rfl : k = n := by omega
      go_wp2
      go_ret
      exact ⟨_, rfl, hown, hB⟩

theorem cp3 (s : Pl.Sz) (h : Pl.Hd) : Pl.cp s h = 0 ∨ Pl.cp s h = 30 ∨ Pl.cp s h = 31 := by
  unfold Pl.cp; split
  · split
    · exact .inl rfl
    · exact .inr (.inl rfl)
  · exact .inr (.inr rfl)

set_option maxRecDepth 100000 in
set_option maxHeartbeats 2000000 in
theorem tneed_any (s : Pl.Sz) (h : Pl.Hd) (hs : Pl.vsz s = true) (hh : Pl.vh h = true) (w : World) :
    Calls Tryd.prog 87 #[.agg (szA s), .agg (hdA h)] w fun e w' => e = .returned (.tuple #[.agg (a5A (Pl.nd s h)), .int .i64 0]) ∧ Below w.heap.size w w' := by
  have hB0 := (((Below.refl w.heap.size w).alloc (Nat.le_refl _) (.cells (szA s) 46)).alloc (by simp) (.cells (hdA h) 34)).alloc (by simp; omega) (.cells (a5A fun _ => 0) 32)
  have bS := ((Blk.new w 46 (szA s)).alloc (.cells (hdA h) 34)).alloc (.cells (a5A fun _ => 0) 32)
  have bH := (Blk.new (w.alloc (.cells (szA s) 46)) 34 (hdA h)).alloc (.cells (a5A fun _ => 0) 32)
  have bR := Blk.new ((w.alloc (.cells (szA s) 46)).alloc (.cells (hdA h) 34)) 32 (a5A fun _ => 0)
  simp only [World.size_alloc] at bH bR
  have hbl := bH.lt
  have hbs := bS.lt
  have hbr := bR.lt
  have HC := Lib.hid (Pl.cp_ok.2 ⟨hs, hh⟩)
  have HS := Lib.hid hs
  have HH := Lib.hid hh
  clear hs hh
  go_enter Tryd.func87, Tryd.ntmps87
  go_wp2_with (first | refine ld_size bS rfl _ rfl rfl ?_ | refine ld_head bH rfl _ rfl rfl ?_ | (go_at_call 96; refine (checkpair_b s h 0 HC.out _).mono ?_; rintro e w1 ⟨rfl, hb1⟩; have hB1 := hB0.trans (hb1.mono hB0.size); have bS1 := bS.below hb1 hbs; have bH1 := bH.below hb1 hbl; have bR1 := bR.below hb1 hbr; clear hb1) | refine ld_size bS1 rfl _ rfl rfl ?_ | refine ld_head bH1 rfl _ rfl rfl ?_ | (go_at_call 49; refine (needs_any s h HS.out HH.out _).mono ?_; rintro e w2 ⟨rfl, hb2⟩; have bR2 := bR1.below hb2 bR1.lt) | (refine st_five (f := Pl.nd s h) bR2 rfl rfl _ _ rfl rfl rfl ?_; intro w3 bR3 hO))
  have hB3 := (hB1.trans (hb2.mono hB1.size)).trans (hO.below (B := w.heap.size) (by omega))
  exact bodyPost_ret (results_cell_tmp rfl _ _ _ _ _ _ _ rfl bR3 Tryd.underlying32 rfl info22) rfl ⟨rfl, hB3⟩

set_option maxRecDepth 100000 in
set_option maxHeartbeats 2000000 in
theorem tfits_any (s : Pl.Sz) (h : Pl.Hd) (hs : Pl.vsz s = true) (hh : Pl.vh h = true) (w : World) :
    Calls Tryd.prog 88 #[.agg (szA s), .agg (hdA h)] w fun e w' => e = .returned (.tuple #[.bool (Pl.fit s h), .int .i64 0]) ∧ Below w.heap.size w w' := by
  have hB0 := ((Below.refl w.heap.size w).alloc (Nat.le_refl _) (.cells (szA s) 46)).alloc (by simp) (.cells (hdA h) 34)
  have bS := (Blk.new w 46 (szA s)).alloc (.cells (hdA h) 34)
  have bH := Blk.new (w.alloc (.cells (szA s) 46)) 34 (hdA h)
  rw [World.size_alloc] at bH
  have hbl := bH.lt
  have hbs := bS.lt
  have HC := Lib.hid (Pl.cp_ok.2 ⟨hs, hh⟩)
  have HS := Lib.hid hs
  have HH := Lib.hid hh
  clear hs hh
  go_enter Tryd.func88, Tryd.ntmps88
  go_wp2_with (first | refine ld_size bS rfl _ rfl rfl ?_ | refine ld_head bH rfl _ rfl rfl ?_ | (go_at_call 96; refine (checkpair_b s h 0 HC.out _).mono ?_; rintro e w1 ⟨rfl, hb1⟩; have hB1 := hB0.trans (hb1.mono hB0.size); have bS1 := bS.below hb1 hbs; have bH1 := bH.below hb1 hbl; clear hb1) | refine ld_size bS1 rfl _ rfl rfl ?_ | refine ld_head bH1 rfl _ rfl rfl ?_ | (go_at_call 43; refine (fits_any s h HS.out HH.out _).mono ?_; rintro e w2 ⟨rfl, hb2⟩))
  go_ret2
  exact ⟨rfl, hB1.trans (hb2.mono hB1.size)⟩

set_option maxRecDepth 100000 in
set_option maxHeartbeats 2000000 in
theorem bent_any (s : Pl.Sz) (h : Pl.Hd) (hs : Pl.vsz s = true) (hh : Pl.vh h = true) (w : World) :
    Calls Tryd.prog 70 #[.agg (szA s), .agg (hdA h)] w fun e w' => e = .returned (.tuple #[.int .i64 (Pl.sumK (Pl.nd s h) 5), .bool (Pl.fit s h)]) ∧ Below w.heap.size w w' := by
  have hB0 := ((Below.refl w.heap.size w).alloc (Nat.le_refl _) (.cells (szA s) 46)).alloc (by simp) (.cells (hdA h) 34)
  have bS := (Blk.new w 46 (szA s)).alloc (.cells (hdA h) 34)
  have bH := Blk.new (w.alloc (.cells (szA s) 46)) 34 (hdA h)
  rw [World.size_alloc] at bH
  have hbl := bH.lt
  have hbs := bS.lt
  have H1 := Lib.hid (tneed_any s h hs hh)
  have H2 := Lib.hid (tfits_any s h hs hh)
  have HF := Lib.hid (fun i (hi : i < 5) => Pl.nd_bd hs hh hi)
  generalize Pl.nd s h = f at *
  generalize Pl.fit s h = b at *
  clear hs hh
  go_enter Tryd.func70, Tryd.ntmps70
  go_wp2_with (first | refine ld_size bS rfl _ rfl rfl ?_ | refine ld_head bH rfl _ rfl rfl ?_ | (go_at_call 87; refine (H1.out _).mono ?_; rintro e w1 ⟨rfl, hb1⟩; have hB1 := hB0.trans (hb1.mono hB0.size); have bS1 := (bS.below hb1 hbs).alloc (.cells (a5A f) 32); have bH1 := (bH.below hb1 hbl).alloc (.cells (a5A f) 32); have bF := Blk.new w1 32 (a5A f); have hB2 := hB1.alloc hB1.size (.cells (a5A f) 32); clear hb1) | refine ld_size bS1 rfl _ rfl rfl ?_ | refine ld_head bH1 rfl _ rfl rfl ?_ | (go_at_call 88; refine (H2.out _).mono ?_; rintro e w2 ⟨rfl, hb2⟩; have bF2 := bF.below hb2 bF.lt; have hB3 := hB2.trans (hb2.mono hB2.size)) | refine ld_five bF2 rfl _ rfl rfl ?_)
  clear bS bH bS1 bH1 bF bF2 hB0 hB1 hB2 hb2 hbl hbs
  go_loop [10, 12, 26] (fun t _ i => ∃ k : Nat, k ≤ 5 ∧ i = .int .i64 k ∧ t = .int .i64 (Pl.sumK f k)) (fun _ _ i => 5 - (intOf i).toNat)
  case atStart => exact ⟨0, by omega, rfl, rfl⟩
  case round =>
    obtain ⟨k, hk, rfl, rfl⟩ := hrel
    by_cases hlt : k < 5
    · have hix := idx5 f hlt
      obtain ⟨a1, a2⟩ := HF.out k hlt
      obtain ⟨a3, a4⟩ := Pl.sumK_bd (k := k) (fun i hi => HF.out i (by omega))
      go_wp2
      go_round
      case rel => exact ⟨k + 1, by omega, by go_num, rfl⟩
      case measure => simp [intOf]; omega
    · obtain rfl : k = 5 := by omega
      cases b
      all_goals
        go_wp2
        go_ret2
        exact ⟨rfl, hB3⟩
end Go.Proofs.YtghbipipehglfaaDoor
/- The sizes and the heads of measured; chosen. -/
namespace Go.Proofs.YtghbipipehglfaaDoor
open Go.RowKit Go.Shelf

/-- appending one size to a list of one's own -/
theorem ap_one_sz {ops : Array Oper} {rest : List Oper} {o : Oper} {a : Act} {Q : Exit → Act → World → Prop} {w : World} {base : Nat} {v : Value} {l : List Pl.Sz} (hown : w.ownsRow base 46 17 v l.length (szF l)) (hgd : o.guard = none) (s x : Operand)
    (ho : o.op = .call { callee := .builtin .append, args := #[s, x], argTypes := #[22, 22] }) (hs : a.eval s = v) (E : Pl.Sz) (g : Nat) (hx : a.eval x = .slice (some ⟨g, 0, none⟩) 1 1)
    (hb : Blk w g 46 (szA E)) (hlen : l.length ≤ 300) (hbase : base ≤ w.heap.size)
    (h : ∀ v' w', w'.ownsRow base 46 17 v' (l ++ [E]).length (szF (l ++ [E])) → w.grownBy w' v.ownBlock → wpList Tryd.prog ops Q rest (a.put o.dst v') w') : wpList Tryd.prog ops Q (o :: rest) a w := by
  obtain ⟨i0, hi, hz0, hz1, hz2⟩ := info_parts infoSz
  have hcells : ∀ j u, (szA E).toList[j]? = some u → w.cell? ((⟨g, 0, none⟩ : Addr).add j) = some u := fun j u hj => by
    rw [Go.WideShapes.add_plain]
    have := hb.cell j
    rw [Nat.zero_add, this]
    simpa using hj
  refine wpList_append_own w hgd s x 22 ho base 46 i0 (.agg (szA Pl.zsz)) 17 136 Tryd.underlying22 hi hz0 hz1 hz2 rfl (by decide) v l.length (szF l) hs hown ⟨g, 0, none⟩ 1 1 (szA E).toList hx rfl hcells (fun u hu => szF_one [E] u (by simpa [szF] using hu)) (by unfold maxLen; omega) (by omega) hbase ?_
  intro v' w' ho' hg _
  refine h v' w' ?_ hg
  rw [List.length_append]
  simpa [szF] using ho'
theorem ap_one_hd {ops : Array Oper} {rest : List Oper} {o : Oper} {a : Act} {Q : Exit → Act → World → Prop} {w : World} {base : Nat} {v : Value} {l : List Pl.Hd} (hown : w.ownsRow base 34 6 v l.length (hdF l)) (hgd : o.guard = none) (s x : Operand)
    (ho : o.op = .call { callee := .builtin .append, args := #[s, x], argTypes := #[23, 23] }) (hs : a.eval s = v) (E : Pl.Hd) (g : Nat) (hx : a.eval x = .slice (some ⟨g, 0, none⟩) 1 1)
    (hb : Blk w g 34 (hdA E)) (hlen : l.length ≤ 300) (hbase : base ≤ w.heap.size)
    (h : ∀ v' w', w'.ownsRow base 34 6 v' (l ++ [E]).length (hdF (l ++ [E])) → w.grownBy w' v.ownBlock → wpList Tryd.prog ops Q rest (a.put o.dst v') w') : wpList Tryd.prog ops Q (o :: rest) a w := by
  obtain ⟨i0, hi, hz0, hz1, hz2⟩ := info_parts infoHd
  have hcells : ∀ j u, (hdA E).toList[j]? = some u → w.cell? ((⟨g, 0, none⟩ : Addr).add j) = some u := fun j u hj => by
    rw [Go.WideShapes.add_plain]
    have := hb.cell j
    rw [Nat.zero_add, this]
    simpa using hj
  refine wpList_append_own w hgd s x 23 ho base 34 i0 (.agg (hdA zhd)) 6 48 Tryd.underlying23 hi hz0 hz1 hz2 rfl (by decide) v l.length (hdF l) hs hown ⟨g, 0, none⟩ 1 1 (hdA E).toList hx rfl hcells (fun u hu => hdF_one [E] u (by simpa [hdF] using hu)) (by unfold maxLen; omega) (by omega) hbase ?_
  intro v' w' ho' hg _
  refine h v' w' ?_ hg
  rw [List.length_append]
  simpa [hdF] using ho'

namespace Pl
/-- the first head with this first measure -/
def fx (hs : List Hd) (v : Int) : Nat := hs.findIdx fun h => h.m 0 == v
theorem fx_spec {hs : List Hd} {v : Int} (h : ∃ i, i < hs.length ∧ (hs.getD i ⟨0, fun _ => 0⟩).m 0 = v) : fx hs v < hs.length ∧ (hs.getD (fx hs v) ⟨0, fun _ => 0⟩).m 0 = v ∧ ∀ i, i < fx hs v → (hs.getD i ⟨0, fun _ => 0⟩).m 0 ≠ v := by
  obtain ⟨i, hi, e⟩ := h
  have hg : ∀ j (hj : j < hs.length), hs.getD j ⟨0, fun _ => 0⟩ = hs[j] := fun j hj => by rw [List.getD_eq_getElem?_getD, List.getElem?_eq_getElem hj]; rfl
  have h1 : fx hs v < hs.length := List.findIdx_lt_length_of_exists ⟨hs[i], List.getElem_mem hi, by rw [hg i hi] at e; simp [e]⟩
  refine ⟨h1, ?_, fun j hj => ?_⟩
  · have := List.findIdx_getElem (p := fun h : Hd => h.m 0 == v) (w := h1)
    rw [hg _ h1]
    exact beq_iff_eq.1 this
  · have := List.not_of_lt_findIdx (p := fun h : Hd => h.m 0 == v) (xs := hs) hj
    rw [hg j (by omega)]
    simpa using this
end Pl

set_option maxRecDepth 100000 in
set_option maxHeartbeats 8000000 in
theorem witnesses_any (B Al : Option Addr) (hs : List Pl.Hd) (vs : List Int) (d cl : Nat) (w : World) (h40 : hs.length ≤ 40) (h200 : vs.length ≤ 200) (hall : ∀ k, k < vs.length → ∃ i, i < hs.length ∧ (hs.getD i zhd).m 0 = vs.getD k 0)
    (hJ : Hds w B hs) (hL : Ints w Al vs) :
    Calls Tryd.prog 68 #[.slice B hs.length d, .slice Al vs.length cl] w fun e w' => ∃ v, e = .returned v ∧ w'.ownsRow w.heap.size 3 1 v (nts (vs.map (Pl.fx hs))).length (ints (nts (vs.map (Pl.fx hs)))) ∧ Below w.heap.size w w' := by
  have HALL := Lib.hid (fun k hk => Pl.fx_spec (hall k hk))
  have HJ := Lib.hid hJ
  have HL := Lib.hid hL
  have HS := Lib.hid (fun k (hk : k < vs.length) => (by rw [List.take_add_one, List.getElem?_eq_getElem hk, Option.toList, List.map_append, nts, List.map_append, List.getD_eq_getElem?_getD, List.getElem?_eq_getElem hk]; rfl : nts ((vs.take (k + 1)).map (Pl.fx hs)) = nts ((vs.take k).map (Pl.fx hs)) ++ [((Pl.fx hs (vs.getD k 0) : Nat) : Int)]))
  have HN := Lib.hid (fun k (hk : k ≤ vs.length) => (by rw [nts_len, List.length_map, List.length_take]; omega : (nts ((vs.take k).map (Pl.fx hs))).length ≤ 200))
  have HE : Hid ((vs.take vs.length).map (Pl.fx hs) = vs.map (Pl.fx hs)) := Lib.hid (by rw [List.take_length])
  clear hJ hL hall
  go_enter Tryd.func68, Tryd.ntmps68
  go_wp2
  go_loopw [5, 7, 8, 9, 12] (fun v _ _ _ i wr => ∃ (k : Nat) (v0 : Value), v0 = v ∧ k ≤ vs.length ∧ i = .int .i64 k ∧ wr.ownsRow w.heap.size 3 1 v (nts ((vs.take k).map (Pl.fx hs))).length (ints (nts ((vs.take k).map (Pl.fx hs)))) ∧ Below w.heap.size w wr) (fun _ _ _ _ i _ => vs.length - (intOf i).toNat)
  case atStart => exact ⟨0, _, rfl, Nat.zero_le _, rfl, World.ownsRow_nil _ _ _ _, Below.refl _ _⟩
  case round =>
    obtain ⟨k, v5, rfl, hk, rfl, hown, hB⟩ := hrel
    obtain ⟨wo, rfl⟩ : ∃ wo, wo = wr := ⟨_, rfl⟩
    by_cases hlt : k < vs.length
    · obtain ⟨bz, oz, rfl, hbz, hcz⟩ : ∃ bb off, Al = some ⟨bb, off, none⟩ ∧ bb < w.heap.size ∧ ∀ j, j < vs.length → w.cell? ⟨bb, off + j, none⟩ = some (.int .i64 (vs.getD j 0)) := by
        rcases HL.out with h | ⟨bb, off, he, hb, hc⟩
        · rw [h] at hlt; simp at hlt
        · exact ⟨bb, off, he, hb, hc⟩
      have hck := (hB.cell (p := ⟨bz, oz + k, none⟩) hbz).trans (hcz k hlt)
      have HST := Lib.hid (HS.out k hlt)
      have hlen := HN.out k hk
      obtain ⟨f1, f2, f3⟩ := HALL.out k hlt
      have HF2 := Lib.hid f2
      have HF3 := Lib.hid f3
      clear hcz f2 f3
      generalize vs.getD k 0 = x at *
      generalize Pl.fx hs x = F at *
      generalize nts ((vs.take k).map (Pl.fx hs)) = L at *
      obtain ⟨by_, oy, rfl, hby, hcy⟩ : ∃ bb off, B = some ⟨bb, off, none⟩ ∧ bb < w.heap.size ∧ ∀ j, j < hs.length → w.rangeAt bb (off + j * 6) (hdA (hs.getD j zhd)).toList := by
        rcases HJ.out with h | ⟨bb, off, he, hb, hc⟩
        · rw [h] at f1; simp at f1
        · exact ⟨bb, off, he, hb, hc⟩
      have HCY := Lib.hid hcy
      clear hcy
      have HOWN := Lib.hid hown
      have HBO := Lib.hid hB
      clear hown hB
      go_wp2
      go_loopw [5, 8, 9, 18] (fun t _ _ i wr => t = v5 ∧ ∃ j : Nat, j ≤ F ∧ i = .int .i64 j ∧ wr.ownsRow w.heap.size 3 1 v5 L.length (ints L) ∧ Below w.heap.size w wr) (fun _ _ _ i _ => hs.length - (intOf i).toNat)
      case atStart => exact ⟨rfl, 0, Nat.zero_le _, rfl, HOWN.out, HBO.out⟩
      case round =>
        obtain ⟨rfl, j, hj, rfl, hown, hB⟩ := hrel
        obtain ⟨w3, rfl⟩ : ∃ w3, w3 = wr := ⟨_, rfl⟩
        have hjl : j < hs.length := by omega
        have hcj := rangeAt_below (HCY.out j hjl) hby hB
        have HNE := Lib.hid (fun h => HF3.out j h)
        have HEQ := Lib.hid (fun (h : j = F) => h ▸ HF2.out)
        generalize hs.getD j zhd = E at *
        have hB1 := hB.alloc hB.size (.cells (hdA E) 34)
        have hownA := hown.alloc (.cells (hdA E) 34)
        have bE : Blk (w3.alloc (.cells (hdA E) 34)) w3.heap.size 34 (hdA E) := Blk.new w3 _ _
        obtain ⟨y, hy0⟩ : ∃ y, E.m 0 = y := ⟨_, rfl⟩
        have q1 : (w3.alloc (.cells (hdA E) 34)).cell? ⟨w3.heap.size, 1, none⟩ = some (.int .i64 y) := by rw [← hy0]; exact bE.cell 1
        rw [hy0] at HNE HEQ
        clear bE hy0
        by_cases hjF : j = F
        · have hy : (y == x) = true := by rw [HEQ.out hjF]; simp
          clear HEQ HNE
          have HJF := Lib.hid hjF
          have q30 := (Blk.new (w3.alloc (.cells (hdA E) 34)) 3 #[.int .i64 (j : Int)]).cell 0
          rw [World.size_alloc] at q30
          have HQ := Lib.hid q30
          clear q30
          clear hjF
          go_wp2_with (first | refine ldm_head hcj rfl _ rfl rfl ?_ | (at_builtin; refine ap_int (n := (j : Int)) (hownA.alloc _) rfl _ _ rfl rfl _ rfl HQ.out (by omega) (by have := hB1.size; simp at this ⊢; omega) ?_; intro v2 w2 hown2 hg2; have hB4 := (hB1.alloc hB1.size _).grown hg2 (by have := hB1.size; simp at this ⊢; omega) (fun s e => (hownA.lt s e).1)))
          go_roundw
          case rel => exact ⟨k + 1, _, rfl, by omega, by go_num, by rw [HST.out, ← HJF.out]; exact hown2, hB4⟩
          case measure => simp [intOf]; omega
        · have hy : (y == x) = false := by have := HNE.out (by omega); simpa using this
          clear HEQ HNE
          go_wp2_with (refine ldm_head hcj rfl _ rfl rfl ?_)
          go_roundw
          case rel => exact ⟨rfl, j + 1, by omega, by go_num, hownA, hB1⟩
          case measure => simp [intOf]; omega
    · obtain rfl : k = vs.length := by omega
      rw [HE.out] at hown
      go_wp2
      go_ret
      exact ⟨_, rfl, hown, hB⟩
end Go.Proofs.YtghbipipehglfaaDoor
/- The sizes that measured makes. -/
namespace Go.Proofs.YtghbipipehglfaaDoor
open Go.RowKit Go.Shelf

namespace Pl
/-- the size number i of measured, which takes x tenths of a millimetre from s on -/
def lz (x : Int) (i : Nat) (s : Int) : Sz := ⟨(i : Int) + 1, fun k => if k = 0 then max s 0 else 0, fun k => if k = 0 then s + x else 3000, fun _ => 0, 0⟩
def lst (x : Int) (vs : List Int) (k : Nat) : List Sz := (List.range k).map fun i => lz x i (vs.getD i 0)
theorem lst_len (x : Int) (vs : List Int) (k : Nat) : (lst x vs k).length = k := by unfold lst; simp
theorem lst_succ (x : Int) (vs : List Int) (k : Nat) : lst x vs (k + 1) = lst x vs k ++ [lz x k (vs.getD k 0)] := by unfold lst; rw [List.range_succ, List.map_append]; rfl
theorem lst_get (x : Int) (vs : List Int) {k i : Nat} (hi : i < k) : (lst x vs k).getD i zsz = lz x i (vs.getD i 0) := by
  rw [List.getD_eq_getElem?_getD]
  unfold lst
  rw [List.getElem?_map, List.getElem?_range hi]; rfl
def lm (i k : Nat) : Sz := ⟨(i : Int) + 1, fun _ => 0, fun j => if j < k then 3000 else 0, fun _ => 0, 0⟩
end Pl
theorem lm_step (i : Nat) {k : Nat} (hk : k < 5) : (szA (Pl.lm i k)).setIfInBounds (6 + k) (.int .i64 3000) = szA (Pl.lm i (k + 1)) := by
  rw [szA_up _ hk]
  refine szA_ext rfl (fun _ _ => rfl) (fun j hj => ?_) (fun _ _ => rfl) rfl
  show (if j = k then (3000 : Int) else if j < k then 3000 else 0) = if j < k + 1 then 3000 else 0
  by_cases h1 : j = k
  · rw [if_pos h1, if_pos (by omega)]
  · rw [if_neg h1]
    by_cases h2 : j < k
    · rw [if_pos h2, if_pos (by omega)]
    · rw [if_neg h2, if_neg (by omega)]
theorem lm_end (x : Int) (i : Nat) (s : Int) : ((szA (Pl.lm i 5)).setIfInBounds 1 (.int .i64 (max s 0))).setIfInBounds 6 (.int .i64 (s + x)) = szA (Pl.lz x i s) := by
  have e1 := szA_fr (Pl.lm i 5) (k := 0) (by decide) (max s 0)
  rw [show 1 + 0 = 1 from rfl] at e1
  rw [e1]
  have e2 := szA_up { Pl.lm i 5 with fr := fun j => if j = 0 then max s 0 else (Pl.lm i 5).fr j } (k := 0) (by decide) (s + x)
  rw [show 6 + 0 = 6 from rfl] at e2
  rw [e2]
  refine szA_ext rfl (fun j _ => rfl) (fun j hj => ?_) (fun _ _ => rfl) rfl
  show (if j = 0 then s + x else if j < 5 then 3000 else 0) = if j = 0 then s + x else 3000
  by_cases h1 : j = 0
  · rw [if_pos h1, if_pos h1]
  · rw [if_neg h1, if_neg h1, if_pos hj]

set_option maxRecDepth 100000 in
set_option maxHeartbeats 4000000 in
theorem lasts_any (Al : Option Addr) (vs : List Int) (cl : Nat) (x : Int) (w : World) (h200 : vs.length ≤ 200) (hx0 : 0 ≤ x) (hx1 : x ≤ 3000) (hvs : ∀ k, k < vs.length → -3000 ≤ vs.getD k 0 ∧ vs.getD k 0 ≤ 3000) (hL : Ints w Al vs) :
    Calls Tryd.prog 67 #[.slice Al vs.length cl, .int .i64 x] w fun e w' => ∃ v, e = .returned v ∧ w'.ownsRow w.heap.size 46 17 v (Pl.lst x vs vs.length).length (szF (Pl.lst x vs vs.length)) ∧ Below w.heap.size w w' := by
  have HL := Lib.hid hL
  have HV := Lib.hid hvs
  have HS := Lib.hid (fun k => Pl.lst_succ x vs k)
  have HN := Lib.hid (fun k => Pl.lst_len x vs k)
  clear hL hvs
  go_enter Tryd.func67, Tryd.ntmps67
  go_wp2
  go_loopw [5, 6, 7, 8, 9, 12] (fun v _ _ _ _ i wr => ∃ k : Nat, k ≤ vs.length ∧ i = .int .i64 k ∧ wr.ownsRow w.heap.size 46 17 v (Pl.lst x vs k).length (szF (Pl.lst x vs k)) ∧ Below w.heap.size w wr) (fun _ _ _ _ _ i _ => vs.length - (intOf i).toNat)
  case atStart => exact ⟨0, Nat.zero_le _, rfl, World.ownsRow_nil _ _ _ _, Below.refl _ _⟩
  case round =>
    obtain ⟨k, hk, rfl, hown, hB⟩ := hrel
    obtain ⟨wo, rfl⟩ : ∃ wo, wo = wr := ⟨_, rfl⟩
    by_cases hlt : k < vs.length
    · obtain ⟨bz, oz, rfl, hbz, hcz⟩ : ∃ bb off, Al = some ⟨bb, off, none⟩ ∧ bb < w.heap.size ∧ ∀ j, j < vs.length → w.cell? ⟨bb, off + j, none⟩ = some (.int .i64 (vs.getD j 0)) := by
        rcases HL.out with h | ⟨bb, off, he, hb, hc⟩
        · rw [h] at hlt; simp at hlt
        · exact ⟨bb, off, he, hb, hc⟩
      have hck := (hB.cell (p := ⟨bz, oz + k, none⟩) hbz).trans (hcz k hlt)
      obtain ⟨v1, v2⟩ := HV.out k hlt
      have HST := Lib.hid (HS.out k)
      have hlen : (Pl.lst x vs k).length ≤ 200 := by rw [HN.out]; exact Nat.le_trans hk h200
      clear hcz
      generalize vs.getD k 0 = s at *
      generalize Pl.lst x vs k = L at *
      have HOWN := Lib.hid hown
      have HBO := Lib.hid hB
      clear hown hB
      go_wp2
      go_loopw [9, 20] (fun _ i wr => ∃ j : Nat, j ≤ 5 ∧ i = .int .i64 j ∧ Blk wr wo.heap.size 46 (szA (Pl.lm k j)) ∧ Below wo.heap.size wo wr) (fun _ i _ => 5 - (intOf i).toNat)
      case atStart => exact ⟨0, by omega, rfl, Blk.new wo 46 (szA (Pl.lm k 0)), (Below.refl _ wo).alloc (Nat.le_refl _) _⟩
      case round =>
        obtain ⟨j, hj, rfl, bS, hB⟩ := hrel
        obtain ⟨w3, rfl⟩ : ∃ w3, w3 = wr := ⟨_, rfl⟩
        by_cases hj5 : j < 5
        · have r1 := bS.frozen (6 + j)
          have q1 := bS.up hj5
          have HBS := Lib.hid bS
          clear bS
          go_wp2
          have bS2 := HBS.out.set_ (6 + j) (.int .i64 3000)
          rw [lm_step k hj5] at bS2
          have hB2 := hB.setCell (p := ⟨wo.heap.size, 6 + j, none⟩) (by simp) (.int .i64 3000)
          go_roundw
          case rel => exact ⟨j + 1, by omega, by go_num, bS2, hB2⟩
          case measure => simp [intOf]; omega
        · obtain rfl : j = 5 := by omega
          have r1 := bS.frozen 1
          have r2 := bS.frozen 6
          have q1 : w3.cell? ⟨wo.heap.size, 1, none⟩ = some (.int .i64 0) := bS.cell 1
          have q2 : w3.cell? ⟨wo.heap.size, 6, none⟩ = some (.int .i64 3000) := bS.cell 6
          have bS2 := (bS.set_ 1 (.int .i64 (max s 0))).set_ 6 (.int .i64 (s + x))
          rw [lm_end x k s] at bS2
          have hB2 := (hB.setCell (p := ⟨wo.heap.size, 1, none⟩) (by simp) (.int .i64 (max s 0))).setCell (p := ⟨wo.heap.size, 6, none⟩) (by simp) (.int .i64 (s + x))
          have hz : ((w3.setCell ⟨wo.heap.size, 1, none⟩ (.int .i64 (max s 0))).setCell ⟨wo.heap.size, 6, none⟩ (.int .i64 (s + x))).heap.size = w3.heap.size := by simp
          have bN := Blk.new ((w3.setCell ⟨wo.heap.size, 1, none⟩ (.int .i64 (max s 0))).setCell ⟨wo.heap.size, 6, none⟩ (.int .i64 (s + x))) 46 (szA (Pl.lz x k s))
          rw [hz] at bN
          have HN2 := Lib.hid bN
          have HO2 := Lib.hid ((own_keep HOWN.out hB2).alloc (.cells (szA (Pl.lz x k s)) 46))
          have HB3 := Lib.hid ((HBO.out.trans (hB2.mono HBO.out.size)).alloc (HBO.out.trans (hB2.mono HBO.out.size)).size (.cells (szA (Pl.lz x k s)) 46))
          clear bS hB hB2 hz bN
          go_wp2_with (first | refine ld_size bS2 rfl _ rfl rfl ?_ | (at_builtin; refine ap_one_sz HO2.out rfl _ _ rfl rfl (Pl.lz x k s) _ rfl HN2.out (by omega) HB3.out.size ?_; intro v2 w2 hown2 hg2; have hB4 := HB3.out.grown hg2 HB3.out.size (fun s e => (HO2.out.lt s e).1)))
          go_roundw
          case rel => exact ⟨k + 1, by omega, by go_num, by rw [HST.out]; exact hown2, hB4⟩
          case measure => simp [intOf]; omega
    · obtain rfl : k = vs.length := by omega
      go_wp2
      go_ret
      exact ⟨_, rfl, hown, hB⟩
end Go.Proofs.YtghbipipehglfaaDoor
/- What measured finds: the sizes of Stab cover, the heads of Spread are apart, and Cover has as many. -/
namespace Go.Proofs.YtghbipipehglfaaDoor
open Go.RowKit Go.Shelf

namespace Pl
/-- the first measures -/
def fm (hs : List Hd) (k : Nat) : List Int := (List.range k).map fun i => (hs.getD i ⟨0, fun _ => 0⟩).m 0
theorem fm_len (hs : List Hd) (k : Nat) : (fm hs k).length = k := by unfold fm; simp
theorem fm_succ (hs : List Hd) (k : Nat) : fm hs (k + 1) = fm hs k ++ [(hs.getD k ⟨0, fun _ => 0⟩).m 0] := by unfold fm; rw [List.range_succ, List.map_append]; rfl
theorem fm_get (hs : List Hd) {k i : Nat} (hi : i < k) : (fm hs k).getD i 0 = (hs.getD i ⟨0, fun _ => 0⟩).m 0 := by
  rw [List.getD_eq_getElem?_getD]
  unfold fm
  rw [List.getElem?_map, List.getElem?_range hi]; rfl
theorem fm_mem {hs : List Hd} {v : Int} (h : v ∈ fm hs hs.length) : ∃ i, i < hs.length ∧ (hs.getD i ⟨0, fun _ => 0⟩).m 0 = v := by
  unfold fm at h
  obtain ⟨i, hi, e⟩ := List.mem_map.1 h
  exact ⟨i, List.mem_range.1 hi, e⟩
/-- a size of measured fits a head iff it takes its first measure -/
theorem lz_fit {x s : Int} {i : Nat} {h : Hd} (hh : vh h = true) : fit (lz x i s) h = true ↔ s ≤ h.m 0 ∧ h.m 0 ≤ s + x := by
  have hm := (vh_true.1 hh).1
  have h0 := hm 0 (by decide)
  rw [fit_true]
  constructor
  · intro ⟨h1, _⟩
    have h2 := h1 0 (by decide)
    have h3 : nd (lz x i s) h 0 = max (max (max s 0 - h.m 0) (h.m 0 - (s + x))) 0 := rfl
    have h4 : (lz x i s).bd 0 = 0 := rfl
    rw [h3, h4] at h2
    omega
  · intro ⟨h1, h2⟩
    have hz : ∀ k, k < 5 → nd (lz x i s) h k = 0 := by
      intro k hk
      have hmk := hm k hk
      by_cases h3 : k = 0
      · subst h3
        show max (max (max s 0 - h.m 0) (h.m 0 - (s + x))) 0 = 0
        omega
      · have h4 : nd (lz x i s) h k = max (max (0 - h.m k) (h.m k - 3000)) 0 := by
          show max (max ((if k = 0 then max s 0 else 0) - h.m k) (h.m k - (if k = 0 then s + x else 3000))) 0 = _
          rw [if_neg h3, if_neg h3]
        rw [h4]
        omega
    refine ⟨fun k hk => by rw [hz k hk]; exact Int.le_refl _, ?_⟩
    rw [sumK_congr (g := fun _ => 0) hz]
    show sumK (fun _ => 0) 5 ≤ 0
    decide
theorem vl_lst {x : Int} {vs : List Int} (hv : ∀ i s, s ∈ vs → i < 12 → vsz (lz x i s) = true) : ∀ (l : List Int) (i : Nat) (seen : List Int), (∀ s ∈ l, s ∈ vs) → i + l.length ≤ 12 → (∀ c ∈ seen, c ≤ i) →
    vl vsz Sz.code (l.mapIdx fun j s => lz x (i + j) s) seen = true
  | [], _, _, _, _, _ => rfl
  | s :: l, i, seen, hm, hi, hc => by
    rw [List.mapIdx_cons]
    unfold vl
    rw [Bool.and_eq_true, Bool.and_eq_true]
    refine ⟨hv _ _ (hm s (by simp)) (by simp at hi; omega), ?_, ?_⟩
    · have : ¬ (lz x (i + 0) s).code ∈ seen := fun h => by have := hc _ h; simp [lz] at this; omega
      simpa using this
    · have := vl_lst hv l (i + 1) ((lz x (i + 0) s).code :: seen) (fun t ht => hm t (by simp [ht])) (by simp at hi ⊢; omega) (fun c hcc => by
        rcases List.mem_cons.1 hcc with h | h
        · rw [h]; simp [lz]
        · have := hc c h; omega)
      rw [← this]
      congr 2
      funext j t
      rw [show i + 1 + j = i + (j + 1) by omega]
theorem lst_mapIdx (x : Int) (vs : List Int) : lst x vs vs.length = vs.mapIdx fun j s => lz x (0 + j) s := by
  apply List.ext_getElem?
  intro i
  rcases Nat.lt_or_ge i vs.length with h | h
  · unfold lst
    rw [List.getElem?_map, List.getElem?_range h, List.getElem?_mapIdx, List.getElem?_eq_getElem h]
    show some (lz x i (vs.getD i 0)) = some (lz x (0 + i) vs[i])
    rw [List.getD_eq_getElem?_getD, List.getElem?_eq_getElem h, Nat.zero_add]; rfl
  · rw [List.getElem?_eq_none (by rw [lst_len]; exact h), List.getElem?_eq_none (by simpa using h)]
end Pl
/-- what measured asks of the sizes and the heads -/
theorem measured_ok {hs : List Pl.Hd} {x : Int} (hv : Pl.vhds hs = true) (hx0 : 0 ≤ x) (hx1 : x ≤ 3000) :
    Pl.lineE (Pl.fm hs hs.length) x [] = 0 ∧ (stabV x (Pl.fm hs hs.length)).length = (sprdV x (Pl.fm hs hs.length)).length ∧
    (∀ k, k < (stabV x (Pl.fm hs hs.length)).length → -3000 ≤ (stabV x (Pl.fm hs hs.length)).getD k 0 ∧ (stabV x (Pl.fm hs hs.length)).getD k 0 ≤ 3000) ∧
    (∀ k, k < (sprdV x (Pl.fm hs hs.length)).length → ∃ i, i < hs.length ∧ (hs.getD i zhd).m 0 = (sprdV x (Pl.fm hs hs.length)).getD k 0) ∧
    ((stabV x (Pl.fm hs hs.length)).length ≤ 12 →
      let S := Pl.lst x (stabV x (Pl.fm hs hs.length)) (stabV x (Pl.fm hs hs.length)).length
      let W := nts ((sprdV x (Pl.fm hs hs.length)).map (Pl.fx hs))
      cvE S hs (nts (List.range S.length)) = 0 ∧ cvV S hs (nts (List.range S.length)) = true ∧ apE S hs W = 0 ∧ apV S hs W = true ∧ coE S hs = 0 ∧ (nts (coL S hs)).length = (stabV x (Pl.fm hs hs.length)).length) := by
  obtain ⟨h40, hvh⟩ := Pl.vhds_ok hv
  have hfm : ∀ v, v ∈ Pl.fm hs hs.length → 0 ≤ v ∧ v ≤ 3000 := fun v h => by
    obtain ⟨i, hi, e⟩ := Pl.fm_mem h
    have := (Pl.vh_true.1 (hvh i hi)).1 0 (by decide)
    rw [← e]; exact this
  have hfe : ∀ i, i < hs.length → (hs.getD i zhd).m 0 ∈ Pl.fm hs hs.length := fun i hi => by
    rw [← Pl.fm_get hs hi]
    exact Pl.getD_mem (by rw [Pl.fm_len]; exact hi)
  have hE : Pl.lineE (Pl.fm hs hs.length) x [] = 0 := Pl.lineE_ok (by rw [Pl.fm_len]; simp; omega) (by
    unfold Pl.lineOk
    rw [Bool.and_eq_true, Bool.and_eq_true, Pl.inB_true, Pl.allIn_true]
    refine ⟨fun v h => ?_, Pl.allIn_nil _ _, hx0, by omega⟩
    have := hfm v h
    omega)
  have hfx : ∀ v, v ∈ Pl.fm hs hs.length → Pl.fx hs v < hs.length ∧ (hs.getD (Pl.fx hs v) zhd).m 0 = v := fun v h => by
    have := Pl.fx_spec (Pl.fm_mem h)
    exact ⟨this.1, this.2.1⟩
  generalize Pl.fm hs hs.length = vs at *
  have ea : stabV x vs = (Pl.stabT x vs).reverse := if_pos hE
  have eb : sprdV x vs = Pl.sprdT x vs := if_pos hE
  obtain ⟨_, sa2⟩ := Pl.stab_apart hx0 vs
  obtain ⟨sp1, sp2⟩ := Pl.sprd_apart hx0 vs
  have hcov := Pl.stab_covers hx0 vs
  have hlen := Pl.stab_sprd hx0 vs
  have ha : ∀ s, s ∈ stabV x vs → 0 ≤ s + x ∧ s + x ≤ 3000 := fun s h => hfm _ (sa2 s (by rw [ea] at h; exact List.mem_reverse.1 h))
  have hb : ∀ s, s ∈ sprdV x vs → s ∈ vs := fun s h => sp2 s (by rw [eb] at h; exact h)
  have hab : (stabV x vs).length = (sprdV x vs).length := by rw [ea, eb, List.length_reverse, hlen]
  have hcv : ∀ v, v ∈ vs → ∃ s, s ∈ stabV x vs ∧ s ≤ v ∧ v ≤ s + x := fun v h => by
    obtain ⟨s, h1, h2, h3⟩ := hcov v h
    exact ⟨s, by rw [ea]; exact List.mem_reverse.2 h1, h2, h3⟩
  have hpw : (sprdV x vs).Pairwise (fun p q => p + x < q) := by rw [eb]; exact sp1
  clear ea eb sa2 sp1 sp2 hcov hlen
  generalize stabV x vs = a at *
  generalize sprdV x vs = b at *
  refine ⟨hE, hab, fun k hk => ?_, fun k hk => ?_, fun h12 => ?_⟩
  · have := ha _ (Pl.getD_mem hk)
    omega
  · have := hfx _ (hb _ (Pl.getD_mem hk))
    exact ⟨_, this.1, this.2⟩
  · intro S W
    have hSl : S.length = a.length := Pl.lst_len _ _ _
    have hSg : ∀ i, i < a.length → S.getD i Pl.zsz = Pl.lz x i (a.getD i 0) := fun i hi => Pl.lst_get x a hi
    have hvz : ∀ i s, s ∈ a → i < 12 → Pl.vsz (Pl.lz x i s) = true := fun i s h hi => by
      have := ha s h
      rw [Pl.vsz_true]
      refine ⟨fun k hk => ?_, ?_, ?_⟩
      · show 0 ≤ (if k = 0 then max s 0 else 0) ∧ (if k = 0 then max s 0 else 0) ≤ (if k = 0 then s + x else 3000) ∧ (if k = 0 then s + x else 3000) ≤ 3000 ∧ (0 : Int) ≤ 0 ∧ (0 : Int) ≤ 100
        by_cases h0 : k = 0
        · simp only [h0, if_true]; omega
        · simp only [h0, if_false]; omega
      · show 1 ≤ (i : Int) + 1 ∧ (i : Int) + 1 ≤ 1000000000
        omega
      · show (0 : Int) ≤ 0 ∧ (0 : Int) ≤ 500
        omega
    have hvS : Pl.vszs S = true := by
      unfold Pl.vszs
      rw [Bool.and_eq_true, decide_eq_true_eq, hSl]
      refine ⟨by omega, ?_⟩
      show Pl.vl Pl.vsz Pl.Sz.code (Pl.lst x a a.length) [] = true
      rw [Pl.lst_mapIdx]
      exact Pl.vl_lst hvz a 0 [] (fun _ h => h) (by omega) (fun _ h => by cases h)
    have hbo : bothE S hs = 0 := by unfold bothE; rw [if_pos hvS, if_pos hv]
    have hft : ∀ i, i < a.length → ∀ j, j < hs.length → (Pl.fit (S.getD i Pl.zsz) (hs.getD j zhd) = true ↔ a.getD i 0 ≤ (hs.getD j zhd).m 0 ∧ (hs.getD j zhd).m 0 ≤ a.getD i 0 + x) := fun i hi j hj => by
      rw [hSg i hi]; exact Pl.lz_fit (hvh j hj)
    have hCV : Pl.cv S hs (List.range S.length) = true := by
      unfold Pl.cv
      rw [List.all_eq_true]
      intro j hj
      rw [List.mem_range] at hj
      unfold Pl.cvb
      rw [List.any_eq_true]
      obtain ⟨s, h1, h2, h3⟩ := hcv _ (hfe j hj)
      obtain ⟨i, hi, e⟩ := Pl.mem_getD h1
      exact ⟨i, by rw [List.mem_range, hSl]; exact hi, (hft i hi j hj).2 (by rw [e]; exact ⟨h2, h3⟩)⟩
    obtain ⟨n1, n2⟩ := cover_nts hbo (l := List.range S.length) List.nodup_range (fun i hi => List.mem_range.1 hi)
    have hWn : (b.map (Pl.fx hs)).Nodup := Pl.nodup_map (hpw.imp (fun h e => by omega)) (fun p hp q hq e => by
      have h1 := (hfx p (hb p hp)).2
      have h2 := (hfx q (hb q hq)).2
      rw [e] at h1
      rw [← h1, h2])
    obtain ⟨m, hm⟩ := Pl.setL_nts (n := hs.length) (b.map (Pl.fx hs)) 0 hWn (fun i hi => by
      obtain ⟨v, h1, rfl⟩ := List.mem_map.1 hi
      exact ⟨(hfx v (hb v h1)).1, by simp⟩)
    have hWl : W.length = b.length := by show (nts (b.map (Pl.fx hs))).length = b.length; rw [nts_len, List.length_map]
    have hWg : ∀ i, i < b.length → (W.getD i 0).toNat = Pl.fx hs (b.getD i 0) := fun i hi => by
      show ((nts (b.map (Pl.fx hs))).getD i 0).toNat = _
      unfold nts
      rw [List.getD_eq_getElem?_getD, List.getElem?_map, List.getElem?_map, List.getD_eq_getElem?_getD, List.getElem?_eq_getElem hi]; rfl
    have hap : Pl.apm (sets S hs) S.length m = true := Pl.ap_true (l := W) hm h40 (fun i hi j hj q hq => by
      rw [hWl] at hi
      rw [hWg i hi, hWg j (by omega)]
      obtain ⟨f1, f2⟩ := hfx _ (hb _ (Pl.getD_mem hi))
      obtain ⟨g1, g2⟩ := hfx _ (hb _ (Pl.getD_mem (show j < b.length by omega)))
      rw [Bool.eq_false_iff]
      intro ht
      unfold Pl.two at ht
      rw [Bool.and_eq_true] at ht
      have t1 := (hft q (by omega) _ f1).1 ht.1
      have t2 := (hft q (by omega) _ g1).1 ht.2
      rw [f2] at t1
      rw [g2] at t2
      have t3 := (List.pairwise_iff_getElem.1 hpw) j i (by omega) hi hj
      have gd : ∀ k (hk : k < b.length), b.getD k 0 = b[k] := fun k hk => by rw [List.getD_eq_getElem?_getD, List.getElem?_eq_getElem hk]; rfl
      rw [← gd i hi, ← gd j (by omega)] at t3
      omega)
    have hAE : apE S hs W = 0 := by
      unfold apE
      rw [if_pos hbo, if_pos (by show (Pl.setL hs.length W 0).isSome = true; rw [show Pl.setL hs.length W 0 = some m from hm]; rfl)]
    have hAV : apV S hs W = true := by
      unfold apV
      rw [if_pos hAE]
      unfold apB
      rw [show Pl.setL hs.length W 0 = some m from hm]
      exact hap
    have hCO : coE S hs = 0 := by
      rcases coE_four S hs with ⟨h, _⟩ | ⟨_, h, _⟩ | ⟨_, _, h, _⟩ | ⟨_, _, _, h, _⟩
      · exact absurd hbo h
      · omega
      · rw [hCV] at h; cases h
      · exact h
    obtain ⟨_, _, _, c1, c2, _, c4⟩ := co_gr hCO
    refine ⟨n1, by rw [n2]; exact hCV, hAE, hAV, hCO, ?_⟩
    rw [nts_len]
    have l1 : (coL S hs).length ≤ S.length := by
      have := fwB_min (ss := S) (hs := hs) (by omega) (l := List.range S.length) (fun i hi => List.mem_range.1 hi) hCV
      rw [c1]; simpa using this
    have l2 := cover_apart (m := W) c4 c2 hAV
    omega
end Go.Proofs.YtghbipipehglfaaDoor
/- measured. -/
namespace Go.Proofs.YtghbipipehglfaaDoor
open Go.RowKit Go.Shelf

theorem fm_step (hs : List Pl.Hd) (k : Nat) : Pl.fm hs (k + 1) = Pl.fm hs k ++ [(hs.getD k zhd).m 0] := Pl.fm_succ hs k
theorem ints_of_owns_len {W : World} {base n : Nat} {v : Value} {l : List Int} (hn : l.length = n) (h : W.ownsRow base 3 1 v l.length (ints l)) : ∃ A c, v = .slice A n c ∧ Ints W A l := by
  subst hn; exact ints_of_owns h
theorem lenW {f : FuncId} {a1 a2 : Value} {A : Option Addr} {n m c : Nat} {w : World} {Q : Ending → World → Prop} (e : m = n) (h : Calls Tryd.prog f #[a1, a2, .slice A m c] w Q) : Calls Tryd.prog f #[a1, a2, .slice A n c] w Q := by
  subst e; exact h
theorem lenB {f : FuncId} {a1 : Value} {A : Option Addr} {n m c : Nat} {w : World} {Q : Ending → World → Prop} (e : m = n) (h : Calls Tryd.prog f #[a1, .slice A m c] w Q) : Calls Tryd.prog f #[a1, .slice A n c] w Q := by
  subst e; exact h
theorem lenA {f : FuncId} {a2 : Value} {A : Option Addr} {n m c : Nat} {w : World} {Q : Ending → World → Prop} (e : m = n) (h : Calls Tryd.prog f #[.slice A m c, a2] w Q) : Calls Tryd.prog f #[.slice A n c, a2] w Q := by
  subst e; exact h
theorem lenA3 {f : FuncId} {a2 a3 : Value} {A : Option Addr} {n m c : Nat} {w : World} {Q : Ending → World → Prop} (e : m = n) (h : Calls Tryd.prog f #[.slice A m c, a2, a3] w Q) : Calls Tryd.prog f #[.slice A n c, a2, a3] w Q := by
  subst e; exact h
theorem own_sz_len {W : World} {B n : Nat} {v : Value} {l : List Pl.Sz} (hn : l.length = n) (h : W.ownsRow B 46 17 v l.length (szF l)) : ∃ A c, v = .slice A n c ∧ Szs W A l := by
  subst hn; exact own_sz h

set_option maxRecDepth 100000 in
set_option maxHeartbeats 8000000 in
theorem measured_any (B : Option Addr) (hs : List Pl.Hd) (d : Nat) (x : Int) (w : World) (hT : Tab w) (hv : Pl.vhds hs = true) (hx0 : 0 ≤ x) (hx1 : x ≤ 3000) (hJ : Hds w B hs) :
    Calls Tryd.prog 28 #[.slice B hs.length d, .int .i64 x] w fun e w' => e = .returned (.bool true) ∧ Below w.heap.size w w' := by
  obtain ⟨h40, hvh⟩ := Pl.vhds_ok hv
  obtain ⟨m1, m2, m3, m4, m5⟩ := measured_ok hv hx0 hx1
  have HFN := Lib.hid (fun k => Pl.fm_len hs k)
  have HFS := Lib.hid (fun k => fm_step hs k)
  have HST := Lib.hid (fun (A : Option Addr) (c : Nat) (w' : World) (hI : Ints w' A (Pl.fm hs hs.length)) => stab_any A _ c x w' hI)
  have HSP := Lib.hid (fun (A : Option Addr) (c : Nat) (w' : World) (hI : Ints w' A (Pl.fm hs hs.length)) => spread_any A _ c x w' hI)
  rw [m1] at HST HSP
  have h200 : (stabV x (Pl.fm hs hs.length)).length ≤ 200 := by
    rw [show stabV x (Pl.fm hs hs.length) = (Pl.stabT x (Pl.fm hs hs.length)).reverse from if_pos m1, List.length_reverse]
    exact Nat.le_trans (Pl.stabT_len _ _) (by rw [Pl.fm_len]; omega)
  have HLA := Lib.hid (fun (A : Option Addr) (c : Nat) (w' : World) (hI : Ints w' A (stabV x (Pl.fm hs hs.length))) => lasts_any A _ c x w' h200 hx0 hx1 m3 hI)
  have HWI := Lib.hid (fun (A : Option Addr) (c : Nat) (w' : World) (hb : Below w.heap.size w w') (hI : Ints w' A (sprdV x (Pl.fm hs hs.length))) => lenB m2.symm (witnesses_any B A hs _ d c w' h40 (by omega) m4 (hJ.below hb) hI))
  have HWL : Hid ((nts ((sprdV x (Pl.fm hs hs.length)).map (Pl.fx hs))).length = (stabV x (Pl.fm hs hs.length)).length) := Lib.hid (by rw [nts_len, List.length_map, m2])
  have HAB := Lib.hid m2.symm
  have HLL : Hid ((Pl.lst x (stabV x (Pl.fm hs hs.length)) (stabV x (Pl.fm hs hs.length)).length).length = (stabV x (Pl.fm hs hs.length)).length) := Lib.hid (Pl.lst_len _ _ _)
  have H5 := Lib.hid m5
  have HJ := Lib.hid hJ
  have HT := Lib.hid hT
  clear hv hvh m1 m2 m3 m4 m5 hJ hT
  generalize hV : Pl.fm hs hs.length = V at *
  generalize stabV x V = a at *
  generalize sprdV x V = b at *
  generalize nts (b.map (Pl.fx hs)) = W at *
  generalize Pl.lst x a a.length = S at *
  have HVV := Lib.hid hV
  clear hV
  go_enter Tryd.func28, Tryd.ntmps28
  go_wp2
  go_loopw [5, 7, 20] (fun v _ i wr => ∃ k : Nat, k ≤ hs.length ∧ i = .int .i64 k ∧ wr.ownsRow w.heap.size 3 1 v (Pl.fm hs k).length (ints (Pl.fm hs k)) ∧ Below w.heap.size w wr) (fun _ _ i _ => hs.length - (intOf i).toNat)
  case atStart => exact ⟨0, Nat.zero_le _, rfl, World.ownsRow_nil _ _ _ _, Below.refl _ _⟩
  case round =>
    obtain ⟨k, hk, rfl, hown, hB⟩ := hrel
    obtain ⟨wo, rfl⟩ : ∃ wo, wo = wr := ⟨_, rfl⟩
    by_cases hlt : k < hs.length
    · obtain ⟨bz, oz, rfl, hbz, hcz⟩ : ∃ bb off, B = some ⟨bb, off, none⟩ ∧ bb < w.heap.size ∧ ∀ j, j < hs.length → w.rangeAt bb (off + j * 6) (hdA (hs.getD j zhd)).toList := by
        rcases HJ.out with h | ⟨bb, off, he, hb, hc⟩
        · rw [h] at hlt; simp at hlt
        · exact ⟨bb, off, he, hb, hc⟩
      have hck := rangeAt_below (hcz k hlt) hbz hB
      have HS := Lib.hid (HFS.out k)
      have hlen : (Pl.fm hs k).length ≤ 200 := by rw [HFN.out]; omega
      clear hcz
      generalize hs.getD k zhd = E at *
      generalize Pl.fm hs k = L at *
      have bE : Blk (wo.alloc (.cells (hdA E) 34)) wo.heap.size 34 (hdA E) := Blk.new wo _ _
      have hB1 := hB.alloc hB.size (.cells (hdA E) 34)
      have hownA := hown.alloc (.cells (hdA E) 34)
      obtain ⟨y, hy0⟩ : ∃ y, E.m 0 = y := ⟨_, rfl⟩
      have q1 : (wo.alloc (.cells (hdA E) 34)).cell? ⟨wo.heap.size, 1, none⟩ = some (.int .i64 y) := by rw [← hy0]; exact bE.cell 1
      rw [hy0] at HS
      have q30 := (Blk.new (wo.alloc (.cells (hdA E) 34)) 3 #[.int .i64 y]).cell 0
      rw [World.size_alloc] at q30
      have HQ := Lib.hid q30
      clear q30 bE hy0 hown
      go_wp2_with (first | refine ldm_head hck rfl _ rfl rfl ?_ | (at_builtin; refine ap_int (n := y) (hownA.alloc _) rfl _ _ rfl rfl _ rfl HQ.out (by omega) (by have := hB1.size; simp at this ⊢; omega) ?_; intro v2 w2 hown2 hg2; have hB4 := (hB1.alloc hB1.size _).grown hg2 (by have := hB1.size; simp at this ⊢; omega) (fun s e => (hownA.lt s e).1)))
      go_roundw
      case rel => exact ⟨k + 1, by omega, by go_num, by rw [HS.out]; exact hown2, hB4⟩
      case measure => simp [intOf]; omega
    · obtain rfl : k = hs.length := by omega
      rw [HVV.out] at hown
      obtain ⟨AV, cV, rfl, hIV⟩ := ints_of_owns hown
      clear hown HFN HFS HVV
      by_cases h12 : a.length ≤ 12
      · obtain ⟨p1, p2, p3, p4, p5, p6⟩ := H5.out h12
        have HCV := Lib.hid (fun (A A2 : Option Addr) (c c2 : Nat) (w' : World) (hb : Below w.heap.size w w') (hI : Szs w' A S) (hL : Ints w' A2 (nts (List.range S.length))) => lenW (n := a.length) (by rw [nts_len]; simp; exact HLL.out) (lenA3 HLL.out (Covers_any A B A2 S hs _ c d c2 w' (by rw [nts_len]; have := HLL.out; simp; omega) (HT.out.below hb) hI (HJ.out.below hb) hL)))
        have HAP := Lib.hid (fun (A A2 : Option Addr) (c c2 : Nat) (w' : World) (hb : Below w.heap.size w w') (hI : Szs w' A S) (hL : Ints w' A2 W) => lenW HWL.out (lenA3 HLL.out (Apart_any A B A2 S hs W c d c2 w' (by have := HWL.out; omega) hI (HJ.out.below hb) hL)))
        have HCO := Lib.hid (fun (A : Option Addr) (c : Nat) (w' : World) (hb : Below w.heap.size w w') (hI : Szs w' A S) => lenA HLL.out (Cover_any A B S hs c d w' (HT.out.below hb) hI (HJ.out.below hb)))
        rw [p1, p2] at HCV
        rw [p3, p4] at HAP
        rw [p5] at HCO
        have HP6 := Lib.hid p6
        have HNM := Lib.hid (fun (w' : World) => numbers_any a.length (by omega) w')
        have HRL : Hid ((nts (List.range a.length)).length = a.length) := Lib.hid (by rw [nts_len]; simp)
        rw [HLL.out] at HCV
        clear p1 p2 p3 p4 p5 p6 H5
        generalize nts (coL S hs) = C at *
        generalize nts (List.range a.length) = R at *
        have hgt : decide (12 < a.length) = false := by simp; omega
        have hgt2 : decide ((12 : Int) < (a.length : Int)) = false := by simp; omega
        go_wp2_with (first
          | (go_at_call 51; refine (HST.out _ _ _ hIV).mono ?_; rintro e w2 ⟨v2, rfl, hown2, hb2⟩; obtain ⟨A2, c2, rfl, hI2⟩ := ints_of_owns hown2; have hIV2 := hIV.below hb2; have hB2 := hB.trans (hb2.mono hB.size); clear hown2 hb2 hIV)
          | (go_at_call 66; refine (HSP.out _ _ _ hIV2).mono ?_; rintro e w3 ⟨v3, rfl, hown3, hb3⟩; obtain ⟨A3, c3, rfl, hI3⟩ := ints_of_owns_len HAB.out hown3; have hI23 := hI2.below hb3; have hB3 := hB2.trans (hb3.mono hB2.size); clear hown3 hb3 hIV2 hI2)
          | (go_at_call 67; refine (HLA.out _ _ _ hI23).mono ?_; rintro e w4 ⟨v4, rfl, hown4, hb4⟩; obtain ⟨A4, c4, rfl, hI4⟩ := own_sz_len HLL.out hown4; have hI34 := hI3.below hb4; have hB4 := hB3.trans (hb4.mono hB3.size); clear hown4 hb4 hI23 hI3)
          | (go_at_call 68; refine (HWI.out _ _ _ hB4 hI34).mono ?_; rintro e w5 ⟨v5, rfl, hown5, hb5⟩; obtain ⟨A5, c5, rfl, hI5⟩ := ints_of_owns_len HWL.out hown5; have hI45 := hI4.below hb5; have hB5 := hB4.trans (hb5.mono hB4.size); clear hown5 hb5 hI4 hI34)
          | (go_at_call 69; refine (HNM.out _).mono ?_; rintro e w6 ⟨v6, rfl, hown6, hb6⟩; obtain ⟨A6, c6, rfl, hI6⟩ := ints_of_owns_len HRL.out hown6; have hI46 := hI45.below hb6; have hI56 := hI5.below hb6; have hB6 := hB5.trans (hb6.mono hB5.size); clear hown6 hb6 hI45 hI5)
          | (go_at_call 19; refine (HCV.out _ _ _ _ _ hB6 hI46 hI6).mono ?_; rintro e w7 ⟨rfl, hb7⟩; have hI47 := hI46.below hb7; have hI57 := hI56.below hb7; have hB7 := hB6.trans (hb7.mono hB6.size); clear hb7 hI46 hI56)
          | (go_at_call 21; refine (HAP.out _ _ _ _ _ hB7 hI47 hI57).mono ?_; rintro e w8 ⟨rfl, hb8⟩; have hI48 := hI47.below hb8; have hB8 := hB7.trans (hb8.mono hB7.size); clear hb8 hI47 hI57)
          | (go_at_call 23; refine (HCO.out _ _ _ hB8 hI48).mono ?_; rintro e w9 ⟨v9, rfl, hown9, hb9⟩; obtain ⟨A9, c9, rfl, hI9⟩ := ints_of_owns_len HP6.out hown9; have hB9 := hB8.trans (hb9.mono hB8.size); clear hown9 hb9 hI48))
        go_ret
        exact ⟨rfl, hB9⟩
      · clear H5
        have hgt : decide (12 < a.length) = true := by simp; omega
        have hgt2 : decide ((12 : Int) < (a.length : Int)) = true := by simp; omega
        go_wp2_with (first
          | (go_at_call 51; refine (HST.out _ _ _ hIV).mono ?_; rintro e w2 ⟨v2, rfl, hown2, hb2⟩; obtain ⟨A2, c2, rfl, hI2⟩ := ints_of_owns hown2; have hIV2 := hIV.below hb2; have hB2 := hB.trans (hb2.mono hB.size); clear hown2 hb2 hIV)
          | (go_at_call 66; refine (HSP.out _ _ _ hIV2).mono ?_; rintro e w3 ⟨v3, rfl, hown3, hb3⟩; obtain ⟨A3, c3, rfl, hI3⟩ := ints_of_owns_len HAB.out hown3; have hI23 := hI2.below hb3; have hB3 := hB2.trans (hb3.mono hB2.size); clear hown3 hb3 hIV2 hI2))
        go_ret
        exact ⟨rfl, hB3⟩
end Go.Proofs.YtghbipipehglfaaDoor
/- The size that was chosen fits with the least sum of needs. -/
namespace Go.Proofs.YtghbipipehglfaaDoor
open Go.RowKit Go.Shelf

namespace Pl
theorem bst_min {ss : List Sz} {h : Hd} : ∀ {n b : Nat}, bst ss h n = some b → ∀ k, k < n → fit (ss.getD k zsz) h = true → sm (ss.getD b zsz) h ≤ sm (ss.getD k zsz) h := by
  intro n
  induction n with
  | zero => intro b _ k hk; omega
  | succ n ih =>
    intro b hb k hk hf
    rw [bst_succ] at hb
    cases e : fit (ss.getD n zsz) h with
    | false =>
      rw [e, if_neg (by decide)] at hb
      rcases Nat.lt_or_ge k n with h1 | h1
      · exact ih hb k h1 hf
      · obtain rfl : k = n := by omega
        rw [e] at hf; cases hf
    | true =>
      rw [e, if_pos rfl] at hb
      cases e2 : bst ss h n with
      | none =>
        rw [e2] at hb
        obtain rfl : n = b := Option.some.inj hb
        rcases Nat.lt_or_ge k n with h1 | h1
        · have h2 := bst_none.1 e2
          have h3 : k ∈ ftg ss h n := by unfold ftg; rw [List.mem_filter, List.mem_range]; exact ⟨h1, hf⟩
          rw [h2] at h3; cases h3
        · obtain rfl : k = n := by omega
          exact Int.le_refl _
      | some c =>
        rw [e2] at hb
        have hb2 := Option.some.inj hb
        have hc := ih e2
        cases e3 : btr ss h n c with
        | true =>
          rw [e3, if_pos rfl] at hb2
          subst hb2
          unfold btr at e3
          have h4 : sm (ss.getD n zsz) h ≤ sm (ss.getD c zsz) h := by
            rw [Bool.or_eq_true, Bool.and_eq_true, decide_eq_true_eq, decide_eq_true_eq] at e3
            omega
          rcases Nat.lt_or_ge k n with h1 | h1
          · exact Int.le_trans h4 (hc k h1 hf)
          · obtain rfl : k = n := by omega
            exact Int.le_refl _
        | false =>
          rw [e3, if_neg (by decide)] at hb2
          subst hb2
          rcases Nat.lt_or_ge k n with h1 | h1
          · exact hc k h1 hf
          · obtain rfl : k = n := by omega
            unfold btr at e3
            rw [Bool.or_eq_false_iff, decide_eq_false_iff_not] at e3
            omega
end Pl

set_option maxRecDepth 100000 in
set_option maxHeartbeats 4000000 in
theorem chosen_any (A : Option Addr) (ss : List Pl.Sz) (h : Pl.Hd) (c r : Nat) (w : World) (hr : r < ss.length) (h20 : ss.length ≤ 20) (hv : ∀ k, k < ss.length → Pl.vsz (ss.getD k Pl.zsz) = true) (hh : Pl.vh h = true)
    (hf : Pl.fit (ss.getD r Pl.zsz) h = true) (hm : ∀ k, k < ss.length → Pl.fit (ss.getD k Pl.zsz) h = true → Pl.sumK (Pl.nd (ss.getD r Pl.zsz) h) 5 ≤ Pl.sumK (Pl.nd (ss.getD k Pl.zsz) h) 5) (hI : Szs w A ss) :
    Calls Tryd.prog 29 #[.slice A ss.length c, .agg (hdA h), .int .i64 r] w fun e w' => e = .returned (.bool true) ∧ Below w.heap.size w w' := by
  obtain ⟨bz, oz, rfl, hbz, hcz⟩ : ∃ bb off, A = some ⟨bb, off, none⟩ ∧ bb < w.heap.size ∧ ∀ j, j < ss.length → w.rangeAt bb (off + j * 17) (szA (ss.getD j Pl.zsz)).toList := by
    rcases hI with h | ⟨bb, off, he, hb, hc⟩
    · rw [h] at hr; simp at hr
    · exact ⟨bb, off, he, hb, hc⟩
  have hB0 := (Below.refl w.heap.size w).alloc (Nat.le_refl _) (.cells (hdA h) 34)
  have bH := Blk.new w 34 (hdA h)
  have HB1 := Lib.hid (fun (w' : World) => bent_any (ss.getD r Pl.zsz) h (hv r hr) hh w')
  rw [hf] at HB1
  have HC := Lib.hid hcz
  have HV := Lib.hid (fun k hk (w' : World) => bent_any (ss.getD k Pl.zsz) h (hv k hk) hh w')
  have HM := Lib.hid hm
  have hcs := rangeAt_below (hcz r hr) hbz hB0
  have hbz2 : bz < (w.alloc (.cells (hdA h) 34)).heap.size := by simp; omega
  clear hI hcz hv hm hf hh
  generalize Pl.sumK (Pl.nd (ss.getD r Pl.zsz) h) 5 = M at *
  generalize ss.getD r Pl.zsz = E0 at HB1 hcs
  have r1 := bH.range
  have hbh := bH.lt
  go_enter Tryd.func29, Tryd.ntmps29
  go_wp2
  refine wp_region_ext (by kernel_rfl) (by kernel_rfl) ?_
  repeat (first | (refine qld_size hcs hbz2 rfl _ rfl rfl ?_; simp only [Act.put, List.setIfInBounds_toArray, List.set_cons_succ, List.set_cons_zero]) | (refine qld_head r1 hbh rfl _ rfl rfl ?_; simp only [Act.put, List.setIfInBounds_toArray, List.set_cons_succ, List.set_cons_zero]) | go_big_quiet_step ((go_at_call 70; refine calls_ext (HB1.out _))))
  refine wpQuiet_nil ?_
  rintro _ ⟨e, rfl⟩
  have hB2 := hB0.trans (e.h.mono hB0.size)
  have bH2 := bH.below e.h bH.lt
  generalize e.w = W2 at *
  clear hcs r1 bH hB0 e HB1 hbz2 hbh
  have HBW := Lib.hid hB2
  have HBH := Lib.hid bH2
  clear hB2 bH2
  go_wp2
  go_loopw [10, 11, 12, 24] (fun _ _ _ i wr => ∃ k : Nat, k ≤ ss.length ∧ i = .int .i64 k ∧ Blk wr w.heap.size 34 (hdA h) ∧ Below w.heap.size w wr) (fun _ _ _ i _ => ss.length - (intOf i).toNat)
  case atStart => exact ⟨0, Nat.zero_le _, rfl, HBH.out, HBW.out⟩
  case round =>
    obtain ⟨k, hk, rfl, bH, hB⟩ := hrel
    obtain ⟨wo, rfl⟩ : ∃ wo, wo = wr := ⟨_, rfl⟩
    by_cases hlt : k < ss.length
    · have hck := rangeAt_below (HC.out k hlt) hbz hB
      have HFT := Lib.hid (HV.out k hlt)
      have hmk := HM.out k hlt
      generalize ss.getD k Pl.zsz = E1 at *
      generalize Pl.sumK (Pl.nd E1 h) 5 = N at *
      obtain ⟨b, hb⟩ : ∃ b, Pl.fit E1 h = b := ⟨_, rfl⟩
      rw [hb] at HFT hmk
      clear hb
      have bE : Blk (wo.alloc (.cells (szA E1) 46)) wo.heap.size 46 (szA E1) := Blk.new wo _ _
      have hB1 := hB.alloc hB.size (.cells (szA E1) 46)
      have bH1 := bH.alloc (.cells (szA E1) 46)
      have hl1 := bH1.lt
      cases b with
      | true =>
        have hnm : decide (N < M) = false := by have := hmk rfl; simp; omega
        have HNM := Lib.hid (hmk rfl)
        clear hmk
        go_wp2_with (first | refine ldm_size hck rfl _ rfl rfl ?_ | refine ld_size bE rfl _ rfl rfl ?_ | refine ld_head bH1 rfl _ rfl rfl ?_ | (go_at_call 70; refine (HFT.out _).mono ?_; rintro e w6 ⟨rfl, hb6⟩))
        go_roundw
        case rel => exact ⟨k + 1, by omega, by go_num, bH1.below hb6 hl1, hB1.trans (hb6.mono hB1.size)⟩
        case measure => simp [intOf]; omega
      | false =>
        clear hmk
        go_wp2_with (first | refine ldm_size hck rfl _ rfl rfl ?_ | refine ld_size bE rfl _ rfl rfl ?_ | refine ld_head bH1 rfl _ rfl rfl ?_ | (go_at_call 70; refine (HFT.out _).mono ?_; rintro e w6 ⟨rfl, hb6⟩))
        go_roundw
        case rel => exact ⟨k + 1, by omega, by go_num, bH1.below hb6 hl1, hB1.trans (hb6.mono hB1.size)⟩
        case measure => simp [intOf]; omega
    · obtain rfl : k = ss.length := by omega
      go_wp2
      go_ret
      exact ⟨rfl, hB⟩
end Go.Proofs.YtghbipipehglfaaDoor
/- graded: graded sizes cover grown heads as before. -/
namespace Go.Proofs.YtghbipipehglfaaDoor
open Go.RowKit Go.Shelf

namespace Pl
def gk (ss : List Sz) (st : Nat → Int) (n : Int) (k : Nat) : List Sz := (List.range k).map fun i => grd (ss.getD i zsz) st n
theorem gk_len (ss : List Sz) (st : Nat → Int) (n : Int) (k : Nat) : (gk ss st n k).length = k := by unfold gk; simp
theorem gk_succ (ss : List Sz) (st : Nat → Int) (n : Int) (k : Nat) : gk ss st n (k + 1) = gk ss st n k ++ [grd (ss.getD k zsz) st n] := by unfold gk; rw [List.range_succ, List.map_append]; rfl
theorem gk_get (ss : List Sz) (st : Nat → Int) (n : Int) {k i : Nat} (hi : i < k) : (gk ss st n k).getD i zsz = grd (ss.getD i zsz) st n := by
  rw [List.getD_eq_getElem?_getD]
  unfold gk
  rw [List.getElem?_map, List.getElem?_range hi]; rfl
def hk (hs : List Hd) (st : Nat → Int) (n : Int) (k : Nat) : List Hd := (List.range k).map fun i => grow (hs.getD i ⟨0, fun _ => 0⟩) st n
theorem hk_len (hs : List Hd) (st : Nat → Int) (n : Int) (k : Nat) : (hk hs st n k).length = k := by unfold hk; simp
theorem hk_succ (hs : List Hd) (st : Nat → Int) (n : Int) (k : Nat) : hk hs st n (k + 1) = hk hs st n k ++ [grow (hs.getD k ⟨0, fun _ => 0⟩) st n] := by unfold hk; rw [List.range_succ, List.map_append]; rfl
theorem hk_get (hs : List Hd) (st : Nat → Int) (n : Int) {k i : Nat} (hi : i < k) : (hk hs st n k).getD i ⟨0, fun _ => 0⟩ = grow (hs.getD i ⟨0, fun _ => 0⟩) st n := by
  rw [List.getD_eq_getElem?_getD]
  unfold hk
  rw [List.getElem?_map, List.getElem?_range hi]; rfl
/-- a head when k measures have grown -/
def hg (h : Hd) (st : Nat → Int) (n : Int) (k : Nat) : Hd := ⟨h.num, fun i => if i < k then h.m i + n * st i else h.m i⟩
theorem map_range_getD {α β : Type} (f : α → β) (z : α) (l : List α) : ((List.range l.length).map fun i => f (l.getD i z)) = l.map f := by
  apply List.ext_getElem?
  intro i
  rw [List.getElem?_map, List.getElem?_map]
  rcases Nat.lt_or_ge i l.length with h | h
  · rw [List.getElem?_range h, List.getElem?_eq_getElem h]
    show some (f (l.getD i z)) = some (f l[i])
    rw [List.getD_eq_getElem?_getD, List.getElem?_eq_getElem h]; rfl
  · rw [List.getElem?_eq_none (by simpa using h), List.getElem?_eq_none h]; rfl
theorem vl_grd {st : Nat → Int} {n : Int} : ∀ (l : List Sz) (s : List Int), (∀ a ∈ l, vsz (grd a st n) = true) → vl vsz Sz.code l s = true → vl vsz Sz.code (l.map fun a => grd a st n) (s.map (· + n)) = true
  | [], _, _, _ => rfl
  | a :: l, s, ha, h => by
    unfold vl at h
    rw [Bool.and_eq_true, Bool.and_eq_true] at h
    rw [List.map_cons]
    unfold vl
    rw [Bool.and_eq_true, Bool.and_eq_true]
    refine ⟨ha a (by simp), ?_, ?_⟩
    · have h1 : ¬ a.code ∈ s := by simpa using h.2.1
      have : ¬ (grd a st n).code ∈ s.map (· + n) := fun hm => by
        obtain ⟨c, hc, e⟩ := List.mem_map.1 hm
        have e2 : c + n = a.code + n := e
        exact h1 (by rw [show a.code = c by omega]; exact hc)
      simpa using this
    · exact vl_grd l (a.code :: s) (fun b hb => ha b (by simp [hb])) h.2.2
theorem gk_valid {ss : List Sz} {st : Nat → Int} {n : Int} (hv : vszs ss = true) (hg : ∀ k, k < ss.length → vsz (grd (ss.getD k zsz) st n) = true) : vszs (gk ss st n ss.length) = true := by
  unfold vszs at hv ⊢
  rw [Bool.and_eq_true, decide_eq_true_eq] at hv ⊢
  rw [gk_len]
  refine ⟨hv.1, ?_⟩
  have e : gk ss st n ss.length = ss.map fun a => grd a st n := map_range_getD (fun a => grd a st n) zsz ss
  rw [e]
  refine vl_grd ss [] (fun a ha => ?_) hv.2
  obtain ⟨i, hi, e⟩ := List.getElem_of_mem ha
  have := hg i hi
  rw [List.getD_eq_getElem?_getD, List.getElem?_eq_getElem hi, Option.getD_some, e] at this
  exact this
end Pl
theorem hg_step (h : Pl.Hd) (st : Nat → Int) (n : Int) {k : Nat} (hk : k < 5) : (hdA (Pl.hg h st n k)).setIfInBounds (1 + k) (.int .i64 (h.m k + n * st k)) = hdA (Pl.hg h st n (k + 1)) := by
  have e1 : ∀ i, (Pl.hg h st n (k + 1)).m i = if i = k then h.m k + n * st k else (Pl.hg h st n k).m i := fun i => by
    show (if i < k + 1 then h.m i + n * st i else h.m i) = if i = k then h.m k + n * st k else if i < k then h.m i + n * st i else h.m i
    by_cases h1 : i = k
    · rw [if_pos (by omega), if_pos h1, h1]
    · rw [if_neg h1]
      by_cases h2 : i < k
      · rw [if_pos (by omega), if_pos h2]
      · rw [if_neg (by omega), if_neg h2]
  simp only [hdA, e1]
  exact five (p := fun k => (#[Value.int .i64 (Pl.hg h st n k).num, .int .i64 ((Pl.hg h st n k).m 0), .int .i64 ((Pl.hg h st n k).m 1), .int .i64 ((Pl.hg h st n k).m 2), .int .i64 ((Pl.hg h st n k).m 3), .int .i64 ((Pl.hg h st n k).m 4)] : Array Value).setIfInBounds (1 + k) (.int .i64 (h.m k + n * st k)) = #[Value.int .i64 (Pl.hg h st n (k + 1)).num, .int .i64 (if 0 = k then h.m k + n * st k else (Pl.hg h st n k).m 0), .int .i64 (if 1 = k then h.m k + n * st k else (Pl.hg h st n k).m 1), .int .i64 (if 2 = k then h.m k + n * st k else (Pl.hg h st n k).m 2), .int .i64 (if 3 = k then h.m k + n * st k else (Pl.hg h st n k).m 3), .int .i64 (if 4 = k then h.m k + n * st k else (Pl.hg h st n k).m 4)]) hk rfl rfl rfl rfl rfl
theorem hg_end (h : Pl.Hd) (st : Nat → Int) (n : Int) : hdA (Pl.hg h st n 5) = hdA (Pl.grow h st n) := rfl
/-- what Cover gives for graded sizes and grown heads -/
theorem cover_grown {ss : List Pl.Sz} {hs : List Pl.Hd} {st : Nat → Int} {n : Int} (h : coE ss hs = 0) (hg : ∀ k, k < ss.length → Pl.gE (ss.getD k Pl.zsz) st n = 0) (hv : Pl.vhds (Pl.hk hs st n hs.length) = true) :
    coE (Pl.gk ss st n ss.length) (Pl.hk hs st n hs.length) = 0 ∧ coL (Pl.gk ss st n ss.length) (Pl.hk hs st n hs.length) = coL ss hs := by
  obtain ⟨hb, h12, _, _, _, _, _⟩ := co_gr h
  have hvs : Pl.vszs ss = true := by
    cases e : Pl.vszs ss with
    | true => rfl
    | false => unfold bothE at hb; rw [e, if_neg (by decide)] at hb; exact absurd hb (by decide)
  have hv2 : Pl.vszs (Pl.gk ss st n ss.length) = true := Pl.gk_valid hvs (fun k hk => (Pl.gE_ok.1 (hg k hk)).2.2.2)
  have hb2 : bothE (Pl.gk ss st n ss.length) (Pl.hk hs st n hs.length) = 0 := by unfold bothE; rw [if_pos hv2, if_pos hv]
  have hcv : ∀ l : List Nat, (∀ i ∈ l, i < ss.length) → Pl.cv (Pl.gk ss st n ss.length) (Pl.hk hs st n hs.length) l = Pl.cv ss hs l := fun l hl => by
    have hf : ∀ j, j < hs.length → Pl.cvb (Pl.gk ss st n ss.length) ((Pl.hk hs st n hs.length).getD j ⟨0, fun _ => 0⟩) l = Pl.cvb ss (hs.getD j ⟨0, fun _ => 0⟩) l := fun j hj => by
      unfold Pl.cvb
      rw [Bool.eq_iff_iff, List.any_eq_true, List.any_eq_true]
      constructor
      · rintro ⟨i, hi, e⟩
        refine ⟨i, hi, ?_⟩
        rw [Pl.gk_get _ _ _ (hl i hi), Pl.hk_get _ _ _ hj, Pl.fit_grown] at e
        exact e
      · rintro ⟨i, hi, e⟩
        refine ⟨i, hi, ?_⟩
        rw [Pl.gk_get _ _ _ (hl i hi), Pl.hk_get _ _ _ hj, Pl.fit_grown]
        exact e
    unfold Pl.cv
    rw [Pl.hk_len, Bool.eq_iff_iff, List.all_eq_true, List.all_eq_true]
    exact ⟨fun hh j hj => by rw [← hf j (List.mem_range.1 hj)]; exact hh j hj, fun hh j hj => by rw [hf j (List.mem_range.1 hj)]; exact hh j hj⟩
  have hrange : Pl.cv ss hs (List.range ss.length) = true := by
    rcases coE_four ss hs with ⟨q, _⟩ | ⟨_, q, _⟩ | ⟨_, _, _, q, _⟩ | ⟨_, _, q, _⟩
    · exact absurd hb q
    · omega
    · rw [q] at h; cases h
    · exact q
  have e1 : coE (Pl.gk ss st n ss.length) (Pl.hk hs st n hs.length) = 0 := by
    unfold coE
    rw [if_pos hb2, Pl.gk_len, if_neg (by omega), hcv _ (fun i hi => List.mem_range.1 hi), if_pos hrange]
  have e2 : cvC (Pl.gk ss st n ss.length) (Pl.hk hs st n hs.length) = cvC ss hs := by
    funext k
    unfold cvC
    rw [Pl.gk_len, hcv _ (fun i hi => (Pl.mem_els.1 hi).1)]
  refine ⟨e1, ?_⟩
  unfold coL
  rw [if_pos e1, if_pos h, Pl.gk_len]
  unfold fwB
  rw [e2, Pl.gk_len]
end Go.Proofs.YtghbipipehglfaaDoor
/- graded, the walk. -/
namespace Go.Proofs.YtghbipipehglfaaDoor
open Go.RowKit Go.Shelf

theorem own_hd_cap {W : World} {B : Nat} {v : Value} {l : List Pl.Hd} (h : W.ownsRow B 34 6 v l.length (hdF l)) : ∃ A c, v = .slice A l.length c ∧ Hds W A l ∧ l.length ≤ c := by
  have hh := h
  obtain ⟨A, c, rfl, hI⟩ := own_hd h
  refine ⟨A, c, rfl, hI, ?_⟩
  rcases hh.2 with ⟨e, h0⟩ | ⟨g, cap, cur, e, _, _, h1, _⟩
  · omega
  · have : c = cap := congrArg (fun v => match v with | .slice _ _ c => c | _ => 0) e
    omega
theorem own_apart {W W' : World} {B B' n m s s' : Nat} {e e' : TypeId} {v u : Value} {xs ys : List Value} (h : W.ownsRow B e s v n xs) (k : W.ownsRow B' e' s' u m ys) (hne : e ≠ e') (hg : W.grownBy W' v.ownBlock) : W'.ownsRow B' e' s' u m ys := by
  refine k.kept hg ?_
  rcases hu : u.ownBlock with _ | b
  · exact .inl rfl
  · right
    intro e1
    rcases h.2 with ⟨rfl, _⟩ | ⟨g, cap, cur, rfl, _, hgc, _⟩
    · cases e1
    · rcases k.2 with ⟨rfl, _⟩ | ⟨g2, cap2, cur2, rfl, _, hgc2, _⟩
      · cases hu
      · have e3 : g2 = b := by simpa [Value.ownBlock] using hu
        have e4 : b = g := by simpa [Value.ownBlock] using e1
        subst e3 e4
        rw [hgc] at hgc2
        cases hgc2
        exact hne rfl

set_option maxRecDepth 100000 in
set_option maxHeartbeats 8000000 in
theorem graded_any (A B Al : Option Addr) (ss : List Pl.Sz) (hs : List Pl.Hd) (c d cl : Nat) (st : Nat → Int) (n : Int) (w : World) (hT : Tab w) (hco : coE ss hs = 0) (hI : Szs w A ss) (hJ : Hds w B hs) (hL : Ints w Al (nts (coL ss hs))) :
    Calls Tryd.prog 30 #[.slice A ss.length c, .slice B hs.length d, .agg (a5A st), .int .i64 n, .slice Al (nts (coL ss hs)).length cl] w fun e w' => e = .returned (.bool true) ∧ Below w.heap.size w w' := by
  obtain ⟨hb, h12, _, _, hcv, _, hcl⟩ := co_gr hco
  obtain ⟨⟨_, hsv⟩, ⟨h40, hhv⟩⟩ := bothE_ok hb
  have h0 : ss.length = 0 → hs.length = 0 := fun h => by
    rcases Nat.eq_zero_or_pos hs.length with e | e
    · exact e
    · unfold Pl.cv at hcv
      rw [List.all_eq_true] at hcv
      have h1 := hcv 0 (List.mem_range.2 e)
      unfold Pl.cvb at h1
      rw [List.any_eq_true] at h1
      obtain ⟨i, hi, _⟩ := h1
      have := hcl i hi
      omega
  have HBD := Lib.hid (fun (hp : 0 < hs.length) (hall : ∀ k, k < ss.length → Pl.gE (ss.getD k Pl.zsz) st n = 0) => (by
    have h1 : 0 < ss.length := by
      rcases Nat.eq_zero_or_pos ss.length with e | e
      · have := h0 e; omega
      · exact e
    obtain ⟨_, g1, g2, _⟩ := Pl.gE_ok.1 (hall 0 h1)
    exact ⟨Pl.inB_true.1 g1, fun i hi => Pl.inB_true.1 (Pl.allK_true.1 g2 i hi)⟩ : ((-20 ≤ n ∧ n ≤ 20) ∧ ∀ i, i < 5 → -300 ≤ st i ∧ st i ≤ 300)))
  have HGR := Lib.hid (fun (s : Pl.Sz) (w' : World) => dgrade_any s st n w')
  have HHV := Lib.hid (fun k (hk : k < hs.length) => (Pl.vh_true.1 (hhv k hk)).1)
  have HCG := Lib.hid (fun hall hv => cover_grown (st := st) (n := n) hco hall hv)
  have HGS := Lib.hid (fun k => Pl.gk_succ ss st n k)
  have HGN := Lib.hid (fun k => Pl.gk_len ss st n k)
  have HHS := Lib.hid (fun k => (Pl.hk_succ hs st n k : Pl.hk hs st n (k + 1) = Pl.hk hs st n k ++ [Pl.grow (hs.getD k zhd) st n]))
  have HHN := Lib.hid (fun k => Pl.hk_len hs st n k)
  have HI := Lib.hid hI
  have HJ := Lib.hid hJ
  have HT := Lib.hid hT
  have HL := Lib.hid hL
  have HNL : Hid ((nts (coL ss hs)).length ≤ 12) := Lib.hid (by
    rw [nts_len]
    have := fwB_min (ss := ss) (hs := hs) h12 (l := List.range ss.length) (fun i hi => List.mem_range.1 hi) (by
      rcases coE_four ss hs with ⟨q, _⟩ | ⟨_, q, _⟩ | ⟨_, _, _, q, _⟩ | ⟨_, _, q, _⟩
      · exact absurd hb q
      · omega
      · rw [q] at hco; cases hco
      · exact q)
    obtain ⟨_, _, _, e, _⟩ := co_gr hco
    rw [e]
    simp at this
    omega)
  have H0 := Lib.hid h0
  clear hb hcv hcl hsv hhv h0 hI hJ hT hL hco
  generalize hLL : nts (coL ss hs) = L at *
  have HLL := Lib.hid hLL
  clear hLL
  have hB0 := (Below.refl w.heap.size w).alloc (Nat.le_refl _) (.cells (a5A st) 32)
  have bT0 := Blk.new w 32 (a5A st)
  go_enter Tryd.func30, Tryd.ntmps30
  go_wp2
  go_loopw [11, 13, 14, 15, 25] (fun v _ _ _ i wr => ∃ k : Nat, k ≤ ss.length ∧ i = .int .i64 k ∧ wr.ownsRow w.heap.size 46 17 v (Pl.gk ss st n k).length (szF (Pl.gk ss st n k)) ∧ Hid (∀ j, j < k → Pl.gE (ss.getD j Pl.zsz) st n = 0) ∧ Blk wr w.heap.size 32 (a5A st) ∧ Below w.heap.size w wr) (fun _ _ _ _ i _ => ss.length - (intOf i).toNat)
  case atStart => exact ⟨0, Nat.zero_le _, rfl, World.ownsRow_nil _ _ _ _, Lib.hid (fun j hj => by omega), bT0, hB0⟩
  case round =>
    clear bT0 hB0
    obtain ⟨k, hk, rfl, hown, hall, bT, hB⟩ := hrel
    obtain ⟨wo, rfl⟩ : ∃ wo, wo = wr := ⟨_, rfl⟩
    by_cases hlt : k < ss.length
    · obtain ⟨bz, oz, rfl, hbz, hcz⟩ : ∃ bb off, A = some ⟨bb, off, none⟩ ∧ bb < w.heap.size ∧ ∀ j, j < ss.length → w.rangeAt bb (off + j * 17) (szA (ss.getD j Pl.zsz)).toList := by
        rcases HI.out with h | ⟨bb, off, he, hb, hc⟩
        · rw [h] at hlt; simp at hlt
        · exact ⟨bb, off, he, hb, hc⟩
      have hck := rangeAt_below (hcz k hlt) hbz hB
      have HS := Lib.hid (HGS.out k)
      have hlen : (Pl.gk ss st n k).length ≤ 200 := by rw [HGN.out]; omega
      have HNX : Hid (Pl.gE (ss.getD k Pl.zsz) st n = 0 → ∀ j, j < k + 1 → Pl.gE (ss.getD j Pl.zsz) st n = 0) := Lib.hid (fun h j hj => by
        rcases Nat.lt_or_ge j k with h1 | h1
        · exact hall.out j h1
        · rw [show j = k by omega]; exact h)
      clear hcz hall
      generalize ss.getD k Pl.zsz = E at *
      generalize Pl.gk ss st n k = M at *
      have bE : Blk (wo.alloc (.cells (szA E) 46)) wo.heap.size 46 (szA E) := Blk.new wo _ _
      have hB1 := hB.alloc hB.size (.cells (szA E) 46)
      have bT1 := bT.alloc (.cells (szA E) 46)
      have hlT := bT1.lt
      have HOWN := Lib.hid hown
      by_cases he : Pl.gE E st n = 0
      · have HG := Lib.hid (HGR.out E)
        rw [he, show Pl.gV E st n = Pl.grd E st n from if_pos he] at HG
        have HNX2 := Lib.hid (HNX.out he)
        clear HNX he hown
        go_wp2_with (first | refine ldm_size hck rfl _ rfl rfl ?_ | refine ld_size bE rfl _ rfl rfl ?_ | refine ld_five bT1 rfl _ rfl rfl ?_ | (go_at_call 71; refine (HG.out _).mono ?_; rintro e w2 ⟨rfl, hb2⟩; have hB2 := (hB1.trans (hb2.mono hB1.size)).alloc (hB1.trans (hb2.mono hB1.size)).size (.cells (szA (Pl.grd E st n)) 46); have bT2 := (bT1.below hb2 hlT).alloc (.cells (szA (Pl.grd E st n)) 46); have bG := Blk.new w2 46 (szA (Pl.grd E st n)); have hown2 := (own_keep (HOWN.out.alloc (.cells (szA E) 46)) hb2).alloc (.cells (szA (Pl.grd E st n)) 46); have bN := Blk.new (w2.alloc (.cells (szA (Pl.grd E st n)) 46)) 46 (szA (Pl.grd E st n)); rw [World.size_alloc] at bN; have hownN := hown2.alloc (.cells (szA (Pl.grd E st n)) 46); have hB3 := hB2.alloc hB2.size (.cells (szA (Pl.grd E st n)) 46); have bT3 := bT2.alloc (.cells (szA (Pl.grd E st n)) 46); clear hb2 hown2) | refine ld_size bG rfl _ rfl rfl ?_ | (at_builtin; refine ap_one_sz hownN rfl _ _ rfl rfl (Pl.grd E st n) _ rfl bN (by omega) hB3.size ?_; intro v4 w4 hown4 hg4; have hB4 := hB3.grown hg4 hB3.size (fun s e => (hownN.lt s e).1); have bT4 := bT3.grew hownN hg4 (.inr (by decide))))
        go_roundw
        case rel => exact ⟨k + 1, by omega, by go_num, by rw [HS.out]; exact hown4, HNX2, bT4, hB4⟩
        case measure => simp [intOf]; omega
      · have HG := Lib.hid (HGR.out E)
        have hne : (Pl.gE E st n != 0) = true := bne_iff_ne.2 he
        generalize Pl.gE E st n = z at *
        generalize Pl.gV E st n = V at *
        clear HNX hown
        go_wp2_with (first | refine ldm_size hck rfl _ rfl rfl ?_ | refine ld_size bE rfl _ rfl rfl ?_ | refine ld_five bT1 rfl _ rfl rfl ?_ | (go_at_call 71; refine (HG.out _).mono ?_; rintro e w2 ⟨rfl, hb2⟩; have hB2 := (hB1.trans (hb2.mono hB1.size)).alloc (hB1.trans (hb2.mono hB1.size)).size (.cells (szA V) 46)))
        go_ret
        exact ⟨rfl, hB2⟩
    · obtain rfl : k = ss.length := by omega
      have HALL := Lib.hid hall.out
      obtain ⟨AM, cM, hvM, _⟩ := own_sz_len (HGN.out ss.length) hown
      subst hvM
      have HIM := Lib.hid hown
      have HBO := Lib.hid hB
      have HBT := Lib.hid bT
      clear hown hall hB bT HGR HGS HI
      go_wp2
      go_loopw [16, 18, 19, 45] (fun v _ _ i wr => ∃ k : Nat, k ≤ hs.length ∧ i = .int .i64 k ∧ wr.ownsRow w.heap.size 34 6 v (Pl.hk hs st n k).length (hdF (Pl.hk hs st n k)) ∧ Blk wr w.heap.size 32 (a5A st) ∧ Below w.heap.size w wr ∧ wr.ownsRow w.heap.size 46 17 (.slice AM ss.length cM) (Pl.gk ss st n ss.length).length (szF (Pl.gk ss st n ss.length))) (fun _ _ _ i _ => hs.length - (intOf i).toNat)
      case atStart => exact ⟨0, Nat.zero_le _, rfl, World.ownsRow_nil _ _ _ _, HBT.out, HBO.out, HIM.out⟩
      case round =>
        clear HBT HBO HIM
        obtain ⟨k, hk, rfl, hown, bT, hB, hIM⟩ := hrel
        obtain ⟨w3, rfl⟩ : ∃ w3, w3 = wr := ⟨_, rfl⟩
        by_cases hlt2 : k < hs.length
        · obtain ⟨bz, oz, rfl, hbz, hcz⟩ : ∃ bb off, B = some ⟨bb, off, none⟩ ∧ bb < w.heap.size ∧ ∀ j, j < hs.length → w.rangeAt bb (off + j * 6) (hdA (hs.getD j zhd)).toList := by
            rcases HJ.out with h | ⟨bb, off, he, hb, hc⟩
            · rw [h] at hlt2; simp at hlt2
            · exact ⟨bb, off, he, hb, hc⟩
          have hck := rangeAt_below (hcz k hlt2) hbz hB
          obtain ⟨⟨n1, n2⟩, HST0⟩ := HBD.out (by omega) HALL.out
          have HST := Lib.hid HST0
          have HMB := Lib.hid (HHV.out k hlt2)
          have HS := Lib.hid (HHS.out k)
          have hlen : (Pl.hk hs st n k).length ≤ 200 := by rw [HHN.out]; omega
          clear hcz HST0
          generalize hs.getD k zhd = E at *
          generalize Pl.hk hs st n k = G at *
          have bE0 : Blk (w3.alloc (.cells (hdA E) 34)) w3.heap.size 34 (hdA (Pl.hg E st n 0)) := Blk.new w3 _ _
          have hB1 := (Below.refl w3.heap.size w3).alloc (Nat.le_refl _) (.cells (hdA E) 34)
          have bT1 := bT.alloc (.cells (hdA E) 34)
          have hltT : w.heap.size < w3.heap.size := bT.lt
          have HOWN := Lib.hid hown
          have HB := Lib.hid hB
          have HIM := Lib.hid hIM
          clear hown hIM bT hB
          go_wp2_with (refine ldm_head hck rfl _ rfl rfl ?_)
          go_loopw [19, 49] (fun _ i wr => ∃ j : Nat, j ≤ 5 ∧ i = .int .i64 j ∧ Blk wr w3.heap.size 34 (hdA (Pl.hg E st n j)) ∧ Blk wr w.heap.size 32 (a5A st) ∧ Below w3.heap.size w3 wr) (fun _ i _ => 5 - (intOf i).toNat)
          case atStart => exact ⟨0, by omega, rfl, bE0, bT1, hB1⟩
          case round =>
            clear bE0 bT1 hB1
            obtain ⟨j, hj, rfl, bE, bT, hB⟩ := hrel
            obtain ⟨w4, rfl⟩ : ∃ w4, w4 = wr := ⟨_, rfl⟩
            by_cases hj5 : j < 5
            · have q1 : w4.cell? ⟨w3.heap.size, 1 + j, none⟩ = some (.int .i64 (E.m j)) := by
                have := bE.ms hj5
                rw [show (Pl.hg E st n j).m j = E.m j from if_neg (by omega)] at this
                exact this
              have q2 := bT.at5 hj5
              have r1 := bE.frozen (1 + j)
              obtain ⟨s1, s2⟩ := HST.out j hj5
              obtain ⟨e1, e2⟩ := HMB.out j hj5
              obtain ⟨p1, p2⟩ := mul_bd (a := n) (b := st j) (A := 20) (B := 300) (by omega) (by omega) (by omega) (by omega)
              have bE2 := (bE.set_ (1 + j) (.int .i64 (E.m j + n * st j))).drew
              rw [hg_step E st n hj5] at bE2
              have bT2 := (bT.far (p := ⟨w3.heap.size, 1 + j, none⟩) (by simp; omega) (.int .i64 (E.m j + n * st j))).drew
              have hB2 := (hB.setCell (p := ⟨w3.heap.size, 1 + j, none⟩) (by simp) (.int .i64 (E.m j + n * st j))).drew
              have HBE2 := Lib.hid bE2
              have HBT2 := Lib.hid bT2
              have HB2 := Lib.hid hB2
              clear bE bT hB bE2 bT2 hB2
              go_wp2
              go_region
              go_wp2
              go_roundw
              case rel => exact ⟨j + 1, by omega, by go_num, HBE2.out, HBT2.out, HB2.out⟩
              case measure => simp [intOf]; omega
            · obtain rfl : j = 5 := by omega
              rw [hg_end] at bE
              have hB3 := HB.out.trans (hB.mono HB.out.size)
              have hownK := (own_keep HOWN.out hB).alloc (.cells (hdA (Pl.grow E st n)) 34)
              have hIM2 := own_keep HIM.out hB
              have bN := Blk.new w4 34 (hdA (Pl.grow E st n))
              have hB5 := hB3.alloc hB3.size (.cells (hdA (Pl.grow E st n)) 34)
              have bT3 := bT.alloc (.cells (hdA (Pl.grow E st n)) 34)
              have HIM3 := Lib.hid (hIM2.alloc (.cells (hdA (Pl.grow E st n)) 34))
              clear hB bT hIM2 hB3
              go_wp2_with (first | refine ld_head bE rfl _ rfl rfl ?_ | (at_builtin; refine ap_one_hd hownK rfl _ _ rfl rfl (Pl.grow E st n) _ rfl bN (by omega) hB5.size ?_; intro v5 w5 hown5 hg5; have hB6 := hB5.grown hg5 hB5.size (fun s e => (hownK.lt s e).1); have bT4 := bT3.grew hownK hg5 (.inr (by decide)); have hIM4 := own_apart hownK HIM3.out (by decide) hg5))
              go_roundw
              case rel => exact ⟨k + 1, by omega, by go_num, by rw [HS.out]; exact hown5, bT4, hB6, hIM4⟩
              case measure => simp [intOf]; omega
        · obtain rfl : k = hs.length := by omega
          obtain ⟨AH, cH, hvH, hIH, hcap⟩ := own_hd_cap hown
          subst hvH
          obtain ⟨_, _, hvM, hIM2⟩ := own_sz hIM
          obtain ⟨rfl, rfl⟩ : AM = _ ∧ cM = _ := by
            have e1 := congrArg (fun v => match v with | .slice A _ _ => A | _ => none) hvM
            have e2 := congrArg (fun v => match v with | .slice _ _ c => c | _ => 0) hvM
            exact ⟨e1, e2⟩
          have HVH := Lib.hid (rvalid_heads AH (Pl.hk hs st n hs.length) cH w3 hcap (by rw [HHN.out]; omega) hIH)
          have HCO := Lib.hid (fun (w' : World) (hb : Below w3.heap.size w3 w') => lenA (n := ss.length) (HGN.out ss.length) (Cover_any AM AH (Pl.gk ss st n ss.length) (Pl.hk hs st n hs.length) cM cH w' (HT.out.below (hB.trans (hb.mono hB.size))) (hIM2.below hb) (hIH.below hb)))
          have HCG2 := Lib.hid (HCG.out HALL.out)
          have hB3 := hB
          have HLw := Lib.hid (fun (w' : World) (hb : Below w.heap.size w w') => HL.out.below hb)
          have hL12 := HNL.out
          clear hown hIM hIM2 hIH hcap hvM hB bT HHS HHN HGN HBD HHV HCG HL HALL HJ HT
          generalize Pl.hk hs st n hs.length = G at *
          generalize Pl.gk ss st n ss.length = M at *
          obtain ⟨b, hb⟩ : ∃ b, Pl.vhds G = b := ⟨_, rfl⟩
          rw [hb] at HVH HCG2
          clear hb
          cases b with
          | false =>
            go_wp2_with (go_at_call 12; refine HVH.out.mono ?_; rintro e w4 ⟨rfl, hb4⟩; have hB4 := hB3.trans (hb4.mono hB3.size))
            go_ret
            exact ⟨rfl, hB4⟩
          | true =>
            obtain ⟨c1, c2⟩ := HCG2.out rfl
            rw [c1, c2, HLL.out] at HCO
            clear HCG2 c1 c2
            by_cases hz : ss.length = 0
            · have hz1 : (ss.length == 0) = true := by simp [hz]
              have hz2 : ((ss.length : Int) == 0) = true := by simp [hz]
              have hz3 : decide ((ss.length : Int) = 0) = true := by simp [hz]
              have HZ := Lib.hid hz
              clear hz
              go_wp2_with (go_at_call 12; refine HVH.out.mono ?_; rintro e w4 ⟨rfl, hb4⟩; have hB4 := hB3.trans (hb4.mono hB3.size))
              go_ret
              exact ⟨rfl, hB4⟩
            · have hz1 : (ss.length == 0) = false := by simp [hz]
              have hz2 : ((ss.length : Int) == 0) = false := by simp [hz]
              have HZ := Lib.hid hz
              clear hz
              go_wp2_with (first | (go_at_call 12; refine HVH.out.mono ?_; rintro e w4 ⟨rfl, hb4⟩; have hB4 := hB3.trans (hb4.mono hB3.size); have HC2 := Lib.hid (HCO.out _ hb4); clear hb4) | (go_at_call 23; refine HC2.out.mono ?_; rintro e w5 ⟨v5, rfl, hown5, hb5⟩; obtain ⟨A5, c5, rfl, hI5⟩ := ints_of_owns_len rfl hown5; have hB5 := hB4.trans (hb5.mono hB4.size); clear hown5 hb5))
              have hLA := HLw.out _ hB5
              have HA := Lib.hid hLA
              have H5 := Lib.hid hI5
              clear hI5 hLA HVH HCO HC2 hB3 hB4 HLw
              go_loopw [22, 95] (fun _ i wr => ∃ k : Nat, k ≤ L.length ∧ i = .int .i64 k ∧ Below w5.heap.size w5 wr) (fun _ i _ => L.length - (intOf i).toNat)
              case atStart => exact ⟨0, Nat.zero_le _, rfl, Below.refl _ _⟩
              case round =>
                obtain ⟨k, hk, rfl, hB⟩ := hrel
                obtain ⟨w6, rfl⟩ : ∃ w6, w6 = wr := ⟨_, rfl⟩
                by_cases hlt : k < L.length
                · obtain ⟨bz, oz, rfl, hbz, hcz⟩ : ∃ bb off, Al = some ⟨bb, off, none⟩ ∧ bb < w5.heap.size ∧ ∀ j, j < L.length → w5.cell? ⟨bb, off + j, none⟩ = some (.int .i64 (L.getD j 0)) := by
                    rcases HA.out with h | ⟨bb, off, he, hb, hc⟩
                    · rw [h] at hlt; simp at hlt
                    · exact ⟨bb, off, he, hb, hc⟩
                  obtain ⟨by_, oy, rfl, hby, hcy⟩ : ∃ bb off, A5 = some ⟨bb, off, none⟩ ∧ bb < w5.heap.size ∧ ∀ j, j < L.length → w5.cell? ⟨bb, off + j, none⟩ = some (.int .i64 (L.getD j 0)) := by
                    rcases H5.out with h | ⟨bb, off, he, hb, hc⟩
                    · rw [h] at hlt; simp at hlt
                    · exact ⟨bb, off, he, hb, hc⟩
                  have hc1 := (hB.cell (p := ⟨bz, oz + k, none⟩) hbz).trans (hcz k hlt)
                  have hc2 := (hB.cell (p := ⟨by_, oy + k, none⟩) hby).trans (hcy k hlt)
                  have HBD2 := Lib.hid hB.drew
                  clear hcz hcy hB
                  generalize L.getD k 0 = y at *
                  go_wp2
                  go_region
                  go_wp2
                  go_roundw
                  case rel => exact ⟨k + 1, by omega, by go_num, HBD2.out⟩
                  case measure => simp [intOf]; omega
                · obtain rfl : k = L.length := by omega
                  go_wp2
                  go_ret
                  exact ⟨rfl, hB5.trans (hB.mono hB5.size)⟩
end Go.Proofs.YtghbipipehglfaaDoor
/- What TopSizes asks of a cover and of a choice; appending a part of a list. -/
namespace Go.Proofs.YtghbipipehglfaaDoor
open Go.RowKit Go.Shelf

theorem app_ints (w : World) (v : Value) (l m : List Int) (b o n c B : Nat) (hn : n = m.length) (hown : w.ownsRow B 3 1 v l.length (ints l)) (hA : ∀ j, j < m.length → w.cell? ⟨b, o + j, none⟩ = some (.int .i64 (m.getD j 0))) (hl : l.length + m.length ≤ 100000) (hB : B ≤ w.heap.size) :
    ∃ v' w', (Builtin.append_ #[31, 31] 31 #[v, .slice (some ⟨b, o, none⟩) n c]).run Tryd.prog w = .ok v' w' ∧ w'.ownsRow B 3 1 v' (l ++ m).length (ints (l ++ m)) ∧ w.grownBy w' v.ownBlock := by
  subst hn
  obtain ⟨i0, hi0, hz0, hn0, hy0⟩ := info_parts info3
  obtain ⟨v', w', h1, h2, h3, _⟩ := run_append_own (P := Tryd.prog) w B 31 31 3 i0 _ 1 8 Tryd.underlying31 hi0 hz0 hn0 hy0 rfl (by decide) _ _ _ hown ⟨b, o, none⟩ m.length c (ints m) (by rw [ints_len]; omega) (fun j u hj => by
    have hjm : j < m.length := by
      rcases Nat.lt_or_ge j m.length with e | e
      · exact e
      · rw [List.getElem?_eq_none (by rw [ints_len]; exact e)] at hj; cases hj
    rw [ints_get hjm] at hj
    cases hj
    rw [Go.WideShapes.add_plain]
    exact hA j hjm) (ints_one m) (by unfold maxLen; omega) (by omega) hB
  refine ⟨v', w', h1, ?_, h3⟩
  rw [List.length_append, ints, List.map_append]
  exact h2
theorem own_list_cap {W : World} {base : Nat} {v : Value} {l : List Int} (h : W.ownsRow base 3 1 v l.length (ints l)) : ∃ A c, v = .slice A l.length c ∧ Ints W A l ∧ l.length ≤ c := by
  have hh := h
  obtain ⟨A, c, rfl, hI⟩ := ints_of_owns h
  refine ⟨A, c, rfl, hI, ?_⟩
  rcases hh.2 with ⟨e, h0⟩ | ⟨g, cap, cur, e, _, _, h1, _⟩
  · omega
  · have : c = cap := congrArg (fun v => match v with | .slice _ _ c => c | _ => 0) e
    omega
/-- a cover without one of its sizes is none -/
theorem less_no {ss : List Pl.Sz} {hs : List Pl.Hd} (h : coE ss hs = 0) {k : Nat} (hk : k < (nts (coL ss hs)).length) :
    cvE ss hs ((nts (coL ss hs)).take k ++ (nts (coL ss hs)).drop (k + 1)) = 0 ∧ cvV ss hs ((nts (coL ss hs)).take k ++ (nts (coL ss hs)).drop (k + 1)) = false := by
  obtain ⟨hb, h12, _, c1, _, c3, c4⟩ := co_gr h
  have e : (nts (coL ss hs)).take k ++ (nts (coL ss hs)).drop (k + 1) = nts ((coL ss hs).take k ++ (coL ss hs).drop (k + 1)) := by
    unfold nts
    rw [List.map_append, List.map_take, List.map_drop]
  rw [e]
  rw [nts_len] at hk
  have hsub : ((coL ss hs).take k ++ (coL ss hs).drop (k + 1)).Sublist (coL ss hs) := by
    have h1 : (coL ss hs).take k ++ (coL ss hs).drop k = coL ss hs := List.take_append_drop _ _
    have h2 : ((coL ss hs).drop (k + 1)).Sublist ((coL ss hs).drop k) := by
      rw [List.drop_eq_getElem_cons hk]
      exact List.sublist_cons_self _ _
    exact (List.Sublist.append_left h2 _).trans (by rw [h1]; exact List.Sublist.refl _)
  have hm : ∀ i ∈ (coL ss hs).take k ++ (coL ss hs).drop (k + 1), i < ss.length := fun i hi => c4 i (hsub.subset hi)
  obtain ⟨n1, n2⟩ := cover_nts hb (hsub.nodup c3) hm
  refine ⟨n1, ?_⟩
  rw [n2, Bool.eq_false_iff]
  intro hc
  have h5 := fwB_min h12 hm hc
  rw [← c1, List.length_append, List.length_take, List.length_drop] at h5
  omega
/-- what Choose gives for a head that a cover covers -/
theorem choose_ok {ss : List Pl.Sz} {hs : List Pl.Hd} (h : coE ss hs = 0) {k : Nat} (hk : k < hs.length) :
    ∃ r, r < ss.length ∧ chE ss (hs.getD k zhd) = 0 ∧ chV ss (hs.getD k zhd) = r ∧ Pl.fit (ss.getD r Pl.zsz) (hs.getD k zhd) = true ∧
      ∀ j, j < ss.length → Pl.fit (ss.getD j Pl.zsz) (hs.getD k zhd) = true → Pl.sumK (Pl.nd (ss.getD r Pl.zsz) (hs.getD k zhd)) 5 ≤ Pl.sumK (Pl.nd (ss.getD j Pl.zsz) (hs.getD k zhd)) 5 := by
  obtain ⟨hb, h12, _, c1, c2, c3, c4⟩ := co_gr h
  have hv := bothE_ok hb
  have hvs : Pl.vszs ss = true := by
    cases e : Pl.vszs ss with
    | true => rfl
    | false => unfold bothE at hb; rw [e, if_neg (by decide)] at hb; exact absurd hb (by decide)
  rcases chE_four ss (hs.getD k zhd) with ⟨q, _⟩ | ⟨_, q, _⟩ | ⟨_, _, _, q, _⟩ | ⟨r, _, _, _, q, e1, e2⟩
  · rw [hvs] at q; cases q
  · have := hv.2.2 k hk
    rw [q] at this; cases this
  · have q2 := Pl.bst_none.1 q
    unfold Pl.cv at c2
    rw [List.all_eq_true] at c2
    have h1 := c2 k (List.mem_range.2 hk)
    unfold Pl.cvb at h1
    rw [List.any_eq_true] at h1
    obtain ⟨i, hi, hf⟩ := h1
    have h3 : i ∈ Pl.ftg ss (hs.getD k zhd) ss.length := by unfold Pl.ftg; rw [List.mem_filter, List.mem_range]; exact ⟨c4 i hi, hf⟩
    rw [q2] at h3; cases h3
  · obtain ⟨r1, r2⟩ := Pl.bst_lt q
    exact ⟨r, r1, e1, e2, r2, Pl.bst_min q⟩
end Go.Proofs.YtghbipipehglfaaDoor
/- The law TopSizes. -/
namespace Go.Proofs.YtghbipipehglfaaDoor
open Go.RowKit Go.Shelf

theorem wpOp_go6 {P : Program} {ops : Array Oper} {Q : Exit → Act → World → Prop} {K : Act → World → Prop} {a : Act} {w : World} {i : Nat} {o : Oper} (ho : ops[i]? = some o) (hw : Region.wanted o (yielded ops a.tmps) = true)
    (h : ∀ K' : Act → World → Prop, (∀ a w, K a w → K' a w) → Oper.wp P o a w K' Q) : wpOp P ops Q i K a w :=
  wpOp_step ho fun K' hK => by rw [if_pos hw]; exact h K' hK
theorem step_append6 {P : Program} {o : Oper} {a : Act} {w w1 : World} {K : Act → World → Prop} {Q : Exit → Act → World → Prop} (s x : Operand) (t : TypeId) (ho : o.op = .call { callee := .builtin .append, args := #[s, x], argTypes := #[t, t] })
    (v sl v' : Value) (dt : Option Tmp) (hd : o.dst = dt) (hs : a.eval s = v) (hx : a.eval x = sl) (hr : (Builtin.append_ #[t, t] o.type #[v, sl]).run P w = .ok v' w1) (hK : K (a.put dt v') w1) : o.wp P a w K Q := by
  subst hd
  unfold Oper.wp execOp
  simp only [ho, resolve, invoke, builtin, Sem.run_bind, Sem.run_pure, Result.andThen_ok, List.map_toArray, List.map_cons, List.map_nil, hs, hx, hr]
  exact hK
theorem take_get {l : List Int} {k j : Nat} (h : j < k) : (l.take k).getD j 0 = l.getD j 0 := by
  rw [List.getD_eq_getElem?_getD, List.getD_eq_getElem?_getD, List.getElem?_take_of_lt h]
theorem drop_get {l : List Int} {k j : Nat} : (l.drop k).getD j 0 = l.getD (k + j) 0 := by
  rw [List.getD_eq_getElem?_getD, List.getD_eq_getElem?_getD, List.getElem?_drop]

set_option maxRecDepth 100000 in
set_option maxHeartbeats 16000000 in
theorem law_sizes (A B : Option Addr) (ss : List Pl.Sz) (hs : List Pl.Hd) (c d : Nat) (x : Int) (st : Nat → Int) (n : Int) (w : World) (hT : Tab w) (hcap : hs.length ≤ d) (hmax : hs.length ≤ 9223372036854775807) (hI : Szs w A ss) (hJ : Hds w B hs) :
    Calls Tryd.prog 8 #[.slice A ss.length c, .slice B hs.length d, .int .i64 x, .agg (a5A st), .int .i64 n] w fun e w' => e = .returned (.bool true) ∧ Below w.heap.size w w' := by
  have hB0 := (Below.refl w.heap.size w).alloc (Nat.le_refl _) (.cells (a5A st) 32)
  have bT := Blk.new w 32 (a5A st)
  have hlt := bT.lt
  have HV := Lib.hid (rvalid_heads B hs d _ hcap hmax (hJ.below hB0))
  have HF := Lib.hid (fun w => fitting_any w)
  cases hv : Pl.vhds hs with
  | false =>
    rw [hv] at HV
    clear hv hcap hmax hI hJ hT bT hlt
    go_enter Tryd.func8, Tryd.ntmps8
    go_wp2_with (first | (go_at_call 12; refine HV.out.mono ?_; rintro e w1 ⟨rfl, hb1⟩; have hB1 := hB0.trans (hb1.mono hB0.size)) | (go_at_call 27; refine (HF.out _).mono ?_; rintro e w2 ⟨rfl, hb2⟩; have hB2 := hB1.trans (hb2.mono hB1.size)))
    go_ret
    exact ⟨rfl, hB2⟩
  | true =>
    rw [hv] at HV
    by_cases h0 : x < 0
    · have d0 : decide (x < 0) = true := by simp [h0]
      clear hv hcap hmax hI hJ hT bT hlt h0
      go_enter Tryd.func8, Tryd.ntmps8
      go_wp2_with (first | (go_at_call 12; refine HV.out.mono ?_; rintro e w1 ⟨rfl, hb1⟩; have hB1 := hB0.trans (hb1.mono hB0.size)) | (go_at_call 27; refine (HF.out _).mono ?_; rintro e w2 ⟨rfl, hb2⟩; have hB2 := hB1.trans (hb2.mono hB1.size)))
      go_ret
      exact ⟨rfl, hB2⟩
    by_cases h3 : 3000 < x
    · have d0 : decide (x < 0) = false := by simp; omega
      have d3 : decide (3000 < x) = true := by simp [h3]
      clear hv hcap hmax hI hJ hT bT hlt h0 h3
      go_enter Tryd.func8, Tryd.ntmps8
      go_wp2_with (first | (go_at_call 12; refine HV.out.mono ?_; rintro e w1 ⟨rfl, hb1⟩; have hB1 := hB0.trans (hb1.mono hB0.size)) | (go_at_call 27; refine (HF.out _).mono ?_; rintro e w2 ⟨rfl, hb2⟩; have hB2 := hB1.trans (hb2.mono hB1.size)))
      go_ret
      exact ⟨rfl, hB2⟩
    have d0 : decide (x < 0) = false := by simp; omega
    have d3 : decide (3000 < x) = false := by simp; omega
    have HM := Lib.hid (fun (w' : World) (hb : Below w.heap.size w w') => measured_any B hs d x w' (hT.below hb) hv (by omega) (by omega) (hJ.below hb))
    have HC := Lib.hid (fun (w' : World) (hb : Below w.heap.size w w') => Cover_any A B ss hs c d w' (hT.below hb) (hI.below hb) (hJ.below hb))
    by_cases hco : coE ss hs = 0
    rotate_left
    · have hne : (coE ss hs != 0) = true := bne_iff_ne.2 hco
      clear hv hcap hmax hI hJ hT bT hlt h0 h3 hco
      generalize coE ss hs = z at *
      generalize nts (coL ss hs) = L at *
      go_enter Tryd.func8, Tryd.ntmps8
      go_wp2_with (first | (go_at_call 12; refine HV.out.mono ?_; rintro e w1 ⟨rfl, hb1⟩; have hB1 := hB0.trans (hb1.mono hB0.size)) | (go_at_call 28; refine (HM.out _ hB1).mono ?_; rintro e w2 ⟨rfl, hb2⟩; have hB2 := hB1.trans (hb2.mono hB1.size)) | (go_at_call 23; refine (HC.out _ hB2).mono ?_; rintro e w3 ⟨v3, rfl, hown3, hb3⟩; have hB3 := hB2.trans (hb3.mono hB2.size)) | (go_at_call 27; refine (HF.out _).mono ?_; rintro e w4 ⟨rfl, hb4⟩; have hB4 := hB3.trans (hb4.mono hB3.size)))
      go_ret
      exact ⟨rfl, hB4⟩
    have HLN := Lib.hid (fun k hk => less_no hco (k := k) hk)
    have HCV := Lib.hid (fun (Al : Option Addr) (l : List Int) (cl : Nat) (w' : World) (hb : Below w.heap.size w w') (hm : l.length ≤ 9223372036854775807) (hL : Ints w' Al l) => Covers_any A B Al ss hs l c d cl w' hm (hT.below hb) (hI.below hb) (hJ.below hb) hL)
    have HGD := Lib.hid (fun (Al : Option Addr) (cl : Nat) (w' : World) (hb : Below w.heap.size w w') (hL : Ints w' Al (nts (coL ss hs))) => graded_any A B Al ss hs c d cl st n w' (hT.below hb) hco (hI.below hb) (hJ.below hb) hL)
    obtain ⟨hbo, h12, _⟩ := co_gr hco
    obtain ⟨⟨_, hsv⟩, ⟨h40, hhv⟩⟩ := bothE_ok hbo
    have HCH := Lib.hid (fun k (hk : k < hs.length) => choose_ok hco hk)
    have HCS := Lib.hid (fun (h : Pl.Hd) (w' : World) (hb : Below w.heap.size w w') => Choose_any A ss h c w' (hI.below hb))
    have HCN := Lib.hid (fun (h : Pl.Hd) (r : Nat) (w' : World) (hb : Below w.heap.size w w') (hr : r < ss.length) (hh : Pl.vh h = true) hf hm => chosen_any A ss h c r w' hr (by omega) hsv hh hf hm (hI.below hb))
    have HHV := Lib.hid hhv
    have HJ := Lib.hid hJ
    have HL12 : Hid ((nts (coL ss hs)).length ≤ 12) := Lib.hid (by
      have h5 := fwB_min (ss := ss) (hs := hs) h12 (l := List.range ss.length) (fun i hi => List.mem_range.1 hi) (by
        rcases coE_four ss hs with ⟨q, _⟩ | ⟨_, q, _⟩ | ⟨_, _, _, q, _⟩ | ⟨_, _, q, _⟩
        · exact absurd hbo q
        · omega
        · rw [q] at hco; cases hco
        · exact q)
      obtain ⟨_, _, _, e, _⟩ := co_gr hco
      rw [nts_len, e]
      simp at h5
      omega)
    rw [hco] at HC
    clear hv hcap hmax hI hJ hT h0 h3 hco hbo hsv hhv
    generalize nts (coL ss hs) = L at *
    go_enter Tryd.func8, Tryd.ntmps8
    go_wp2_with (first | (go_at_call 12; refine HV.out.mono ?_; rintro e w1 ⟨rfl, hb1⟩; have hB1 := hB0.trans (hb1.mono hB0.size); have bT1 := bT.below hb1 hlt) | (go_at_call 28; refine (HM.out _ hB1).mono ?_; rintro e w2 ⟨rfl, hb2⟩; have hB2 := hB1.trans (hb2.mono hB1.size); have bT2 := bT1.below hb2 bT1.lt) | (go_at_call 23; refine (HC.out _ hB2).mono ?_; rintro e w3 ⟨v3, rfl, hown3, hb3⟩; have hB3 := hB2.trans (hb3.mono hB2.size); have bT3 := bT2.below hb3 bT2.lt; obtain ⟨A3, c3, rfl, hI3, hc3⟩ := own_list_cap hown3))
    have hl12 := HL12.out
    have HB3 := Lib.hid hB3
    have HI3 := Lib.hid hI3
    have HT3 := Lib.hid bT3
    clear hB0 hB1 hB2 hB3 bT bT1 bT2 bT3 hb1 hb2 hb3 hown3 hI3 HV HM HC HL12 hlt
    go_loopw [13, 14, 15, 16, 48] (fun _ _ _ _ i wr => ∃ k : Nat, k ≤ L.length ∧ i = .int .i64 k ∧ Below w3.heap.size w3 wr) (fun _ _ _ _ i _ => L.length - (intOf i).toNat)
    case atStart => exact ⟨0, Nat.zero_le _, rfl, Below.refl _ _⟩
    case round =>
      obtain ⟨k, hk, rfl, hB⟩ := hrel
      obtain ⟨wo, rfl⟩ : ∃ wo, wo = wr := ⟨_, rfl⟩
      by_cases hlt : k < L.length
      · obtain ⟨bz, oz, rfl, hbz, hcz⟩ : ∃ bb off, A3 = some ⟨bb, off, none⟩ ∧ bb < w3.heap.size ∧ ∀ j, j < L.length → w3.cell? ⟨bb, off + j, none⟩ = some (.int .i64 (L.getD j 0)) := by
          rcases HI3.out with h | ⟨bb, off, he, hb, hc⟩
          · rw [h] at hlt; simp at hlt
          · exact ⟨bb, off, he, hb, hc⟩
        obtain ⟨ln1, ln2⟩ := HLN.out k hlt
        have HCZ := Lib.hid (fun (w' : World) (hb : Below w3.heap.size w3 w') j (hj : j < L.length) => (hb.cell (p := ⟨bz, oz + j, none⟩) hbz).trans (hcz j hj))
        have HLE := Lib.hid (fun (Al : Option Addr) (n' cl : Nat) (w' : World) (hn' : n' = (L.take k ++ L.drop (k + 1)).length) (hb : Below w3.heap.size w3 w') (hL : Ints w' Al (L.take k ++ L.drop (k + 1))) => lenW hn'.symm (HCV.out Al (L.take k ++ L.drop (k + 1)) cl w' (HB3.out.trans (hb.mono HB3.out.size)) (by rw [List.length_append, List.length_take, List.length_drop]; omega) hL))
        rw [ln1, ln2] at HLE
        clear hcz ln1 ln2
        have s1 : k ≤ c3 := by omega
        have s2 : k + 1 ≤ L.length := hlt
        have s3 : k + 1 ≤ c3 := by omega
        have hw1 : IntKind.i64.wrap ((k : Int) + 1) = (k : Int) + 1 := by rw [IntKind.wrap_i64]; omega
        have hcd : (0 ≤ (k : Int) + 1 ∧ (k : Int) + 1 ≤ (L.length : Int)) = True := eq_true ⟨by omega, by omega⟩
        obtain ⟨o8, ho8, hc8⟩ : ∃ o8, (if c3 = k + 1 then some (⟨bz, oz, none⟩ : Addr) else some ⟨bz, oz + (k + 1), none⟩) = some ⟨bz, o8, none⟩ ∧ ∀ j, j < L.length - (k + 1) → o8 = oz + (k + 1) := by
          by_cases hc : c3 = k + 1
          · exact ⟨oz, by rw [if_pos hc], fun j hj => by omega⟩
          · exact ⟨oz + (k + 1), by rw [if_neg hc], fun _ _ => rfl⟩
        have HX1 := Lib.hid hw1
        have HX2 := Lib.hid hcd
        have HX3 := Lib.hid ho8
        have HX4 := Lib.hid hc8
        clear hw1 hcd ho8 hc8
        go_wp2
        refine wp_region_held (S := fun W => Below wo.heap.size wo W) (by kernel_rfl) ?_
        change wpAnyH _ _ _ _ _ _ _ _ (World.drew _)
        have hb0 := (Below.refl wo.heap.size wo).drew
        obtain ⟨W0, hW0⟩ : ∃ W0, World.drew wo = W0 := ⟨_, rfl⟩
        rw [hW0] at hb0 ⊢
        clear hW0
        refine wpAnyH_take (i := 1) (v := ?_) rfl (by kernel_rfl) (by decide +kernel) (by decide +kernel) (fun _ _ _ h => h) (Or.inl ⟨by rfl, ?_⟩) hb0 ?_
        rotate_left
        · intro w' hS; first | (go_simp; done) | (go_simp; with_reducible rfl)
        refine wpAnyH_take (i := 2) (v := ?_) rfl (by kernel_rfl) (by decide +kernel) (by decide +kernel) (fun _ _ _ h => h) (Or.inl ⟨by rfl, ?_⟩) hb0 ?_
        rotate_left
        · intro w' hS; first | (go_simp; done) | (go_simp; with_reducible rfl)
        refine wpAnyH_take (i := 3) (v := ?_) rfl (by kernel_rfl) (by decide +kernel) (by decide +kernel) (fun _ _ _ h => h) (Or.inl ⟨by rfl, ?_⟩) hb0 ?_
        rotate_left
        · intro w' hS; first | (go_simp; done) | (go_simp; with_reducible rfl)
        refine wpAnyH_take (i := 5) (v := ?_) rfl (by kernel_rfl) (by decide +kernel) (by decide +kernel) (fun _ _ _ h => h) (Or.inl ⟨by rfl, ?_⟩) hb0 ?_
        rotate_left
        · intro w' hS; first | (go_simp; done) | (go_simp; with_reducible rfl)
        refine wpAnyH_take (i := 6) (v := ?_) rfl (by kernel_rfl) (by decide +kernel) (by decide +kernel) (fun _ _ _ h => h) (Or.inl ⟨by rfl, ?_⟩) hb0 ?_
        rotate_left
        · intro w' hS; first | (go_simp; done) | (go_simp; with_reducible rfl)
        refine wpAnyH_take (i := 7) (v := .int .i64 ((k : Int) + 1)) rfl (by kernel_rfl) (by decide +kernel) (by decide +kernel) (fun _ _ _ h => h) (Or.inl ⟨by rfl, ?_⟩) hb0 ?_
        · intro w' hS; go_simp; rw [HX1.out]
        refine wpAnyH_take (i := 8) (v := .slice (some ⟨bz, o8, none⟩) (L.length - (k + 1)) (c3 - (k + 1))) rfl (by kernel_rfl) (by decide +kernel) (by decide +kernel) (fun _ _ _ h => h) (Or.inl ⟨by rfl, ?_⟩) hb0 ?_
        · intro w' hS; go_simp; simp only [HX3.out, HX2.out, if_true]
        refine wpAnyH_all (rs := [0]) (by decide +kernel) (by simp) ?_
        intro x1 hx1
        obtain rfl := List.mem_singleton.1 hx1
        refine wpOp_go6 rfl rfl (fun K hK => ?_)
        have hoE : (W0.alloc (.cells #[] 3)).ownsRow wo.heap.size 3 1 (.slice (some ⟨W0.heap.size, 0, none⟩) 0 0) 0 [] := World.ownsRow_lit (e := 3) (size := 1) (base := wo.heap.size) W0 #[] 0 hb0.size (by unfold maxLen; omega) rfl
        have hb1 := hb0.alloc hb0.size (.cells #[] 3)
        go_simp
        refine hK _ _ ⟨hb1, ?_⟩
        clear hK K hx1 hb0
        generalize W0.alloc (.cells #[] 3) = W1 at *
        generalize W0.heap.size = g0 at *
        obtain ⟨v3, W2, hr3, ho3, hg3⟩ := app_ints W1 _ [] (L.take k) bz oz k c3 wo.heap.size (by rw [List.length_take]; omega) hoE (fun j hj => by rw [List.length_take] at hj; rw [HCZ.out W1 (hB.trans (hb1.mono hB.size)) j (by omega), take_get (by omega)]) (by rw [List.length_take]; simp; omega) hb1.size
        rw [List.nil_append] at ho3
        have hb2 := hb1.grown hg3 hb1.size (fun s e => (hoE.lt s e).1)
        have HR3 := Lib.hid hr3
        clear hr3 hoE hg3
        refine wpAnyH_all (rs := [4]) (by decide +kernel) (by simp) ?_
        intro x2 hx2
        obtain rfl := List.mem_singleton.1 hx2
        refine wpOp_go6 rfl rfl (fun K hK => ?_)
        refine step_append6 (.tmp 51) (.tmp 54) 31 rfl _ _ _ (some 55) rfl rfl rfl HR3.out (hK _ _ ⟨hb2, ?_⟩)
        simp only [Act.put, List.setIfInBounds_toArray, List.set_cons_succ, List.set_cons_zero]
        clear hK K hx2 HR3 hb1
        obtain ⟨v9, W3, hr9, ho9, hg9⟩ := app_ints W2 v3 (L.take k) (L.drop (k + 1)) bz o8 (L.length - (k + 1)) (c3 - (k + 1)) wo.heap.size (by rw [List.length_drop]) ho3 (fun j hj => by rw [List.length_drop] at hj; rw [HX4.out j hj, show oz + (k + 1) + j = oz + (k + 1 + j) by omega, HCZ.out W2 (hB.trans (hb2.mono hB.size)) (k + 1 + j) (by omega), drop_get]) (by rw [List.length_take, List.length_drop]; omega) hb2.size
        have hb3 := hb2.grown hg9 hb2.size (fun s e => (ho3.lt s e).1)
        have HR9 := Lib.hid hr9
        clear hr9 ho3 hg9
        refine wpAnyH_all (rs := [9]) (by decide +kernel) (by simp) ?_
        intro x3 hx3
        obtain rfl := List.mem_singleton.1 hx3
        refine wpOp_go6 rfl rfl (fun K hK => ?_)
        refine step_append6 (.tmp 55) (.tmp 59) 31 rfl _ _ _ (some 60) rfl rfl rfl HR9.out (hK _ _ ⟨hb3, ?_⟩)
        simp only [Act.put, List.setIfInBounds_toArray, List.set_cons_succ, List.set_cons_zero]
        clear hK K hx3 HR9 hb2
        obtain ⟨A9, c9, hv9, hI9, _⟩ := own_list ho9
        obtain ⟨N, hN⟩ : ∃ N, N = (L.take k ++ L.drop (k + 1)).length := ⟨_, rfl⟩
        rw [← hN] at hv9
        have HN := Lib.hid hN
        clear hN
        subst hv9
        refine wpAnyH_take (i := 10) (v := ?_) rfl (by kernel_rfl) (by decide +kernel) (by decide +kernel) (fun _ _ _ h => h) (Or.inl ⟨by rfl, ?_⟩) hb3 ?_
        rotate_left
        · intro w' hS; first | (go_simp; done) | (go_simp; with_reducible rfl)
        refine wpAnyH_done (by decide +kernel) ?_ _
        generalize hq : Oper.dst _ = q
        obtain rfl : q = some 14 := by rw [← hq]; rfl
        clear hq
        simp only [Act.put, List.setIfInBounds_toArray, List.set_cons_succ, List.set_cons_zero]
        have hB4 := hB.trans (hb3.mono hB.size)
        have HI9 := Lib.hid hI9
        have HB4 := Lib.hid hB4
        clear hI9 ho9 hb3 hB HCZ hB4
        go_wp2_with (go_at_call 19; refine (HLE.out A9 _ c9 _ HN.out HB4.out HI9.out).mono ?_; rintro e w6 ⟨rfl, hb6⟩; have hB6 := HB4.out.trans (hb6.mono HB4.out.size))
        go_roundw
        case rel => exact ⟨k + 1, by omega, by go_num, hB6⟩
        case measure => simp [intOf]; omega
      · obtain rfl : k = L.length := by omega
        have HBO := Lib.hid hB
        clear hB HLN HCV
        go_wp2
        go_loopw [18, 19, 20, 76] (fun _ _ _ i wr => ∃ k : Nat, k ≤ hs.length ∧ i = .int .i64 k ∧ Below w3.heap.size w3 wr) (fun _ _ _ i _ => hs.length - (intOf i).toNat)
        case atStart => exact ⟨0, Nat.zero_le _, rfl, HBO.out⟩
        case round =>
          clear HBO
          obtain ⟨k, hk2, rfl, hB⟩ := hrel
          obtain ⟨w4, rfl⟩ : ∃ w4, w4 = wr := ⟨_, rfl⟩
          by_cases hlt2 : k < hs.length
          · obtain ⟨bz, oz, rfl, hbz, hcz⟩ : ∃ bb off, B = some ⟨bb, off, none⟩ ∧ bb < w.heap.size ∧ ∀ j, j < hs.length → w.rangeAt bb (off + j * 6) (hdA (hs.getD j zhd)).toList := by
              rcases HJ.out with h | ⟨bb, off, he, hb, hc⟩
              · rw [h] at hlt2; simp at hlt2
              · exact ⟨bb, off, he, hb, hc⟩
            have hBw := HB3.out.trans (hB.mono HB3.out.size)
            have hck := rangeAt_below (hcz k hlt2) hbz hBw
            obtain ⟨r, hr, e1, e2, hf, hm⟩ := HCH.out k hlt2
            have hh := HHV.out k hlt2
            clear hcz
            generalize hs.getD k zhd = E at *
            have HCN2 := Lib.hid (fun (w' : World) (hb : Below w.heap.size w w') => HCN.out E r w' hb hr hh hf hm)
            have HCS2 := Lib.hid (fun (w' : World) (hb : Below w.heap.size w w') => HCS.out E w' hb)
            rw [e1, e2] at HCS2
            have bE : Blk (w4.alloc (.cells (hdA E) 34)) w4.heap.size 34 (hdA E) := Blk.new w4 _ _
            have hB1 := hB.alloc hB.size (.cells (hdA E) 34)
            have hBw1 := hBw.alloc hBw.size (.cells (hdA E) 34)
            have hlE := bE.lt
            have q1 : decide ((r : Int) < 0) = false := by simp
            have q2 : decide ((ss.length : Int) ≤ (r : Int)) = false := by simp; omega
            have q3 : decide (ss.length ≤ r) = false := by simp; omega
            have rE := bE.range
            clear hm hf e1 e2 hh hB hBw
            go_wp2_with (first | refine ldm_head hck rfl _ rfl rfl ?_ | refine ld_head bE rfl _ rfl rfl ?_ | (go_at_call 16; refine (HCS2.out _ hBw1).mono ?_; rintro e w5 ⟨rfl, hb5⟩; have r5 := (bE.below hb5 hlE).range; have hB5 := hB1.trans (hb5.mono hB1.size); have hBw5 := hBw1.trans (hb5.mono hBw1.size); clear hb5) | refine ldm_head r5 rfl _ rfl rfl ?_ | (go_at_call 29; refine (HCN2.out _ hBw5).mono ?_; rintro e w6 ⟨rfl, hb6⟩; have hB6 := hB5.trans (hb6.mono hB5.size)))
            go_roundw
            case rel => exact ⟨k + 1, by omega, by go_num, hB6⟩
            case measure => simp [intOf]; omega
          · obtain rfl : k = hs.length := by omega
            have hBw := HB3.out.trans (hB.mono HB3.out.size)
            have bT := HT3.out.below hB HT3.out.lt
            have HG2 := Lib.hid (HGD.out A3 c3 w4 hBw (HI3.out.below hB))
            clear HGD HCH HCS HCN hB
            go_wp2_with (first | refine ld_five bT rfl _ rfl rfl ?_ | (go_at_call 30; refine HG2.out.mono ?_; rintro e w5 ⟨rfl, hb5⟩; have hB5 := hBw.trans (hb5.mono hBw.size)) | (go_at_call 27; refine (HF.out _).mono ?_; rintro e w6 ⟨rfl, hb6⟩; have hB6 := hB5.trans (hb6.mono hB5.size)))
            go_ret
            exact ⟨rfl, hB6⟩
end Go.Proofs.YtghbipipehglfaaDoor
/- For all sizes, heads, widths, steps and numbers, TopSizes returns true. The tied card of the row: that the listed variable of the library holds what the text of the library lays in it is its only condition. -/
namespace Go.Proofs.YtghbipipehglfaaDoor.topSizes
open Go.ChangeShapes Go.WideShapes Go.ChangeAt Go.RowKit
set_option linter.unusedVariables false

set_option maxRecDepth 100000 in
theorem lifted (os : Os) (started : os.Started) (H : Type) (enc : TypeId × Value → H) :
    ReturnsInHanded {} Tryd.checked os 8 .any (fun w args => (Rows.topSizesSpec.pre enc Tryd.prog Tryd.f8 [] false w args ∧ laidMetH Tryd.prog laidL w) ∧ sizedMet enc Tryd.prog Tryd.f8 (OpenSpec.ofChange Rows.topSizesSpec) false w args) (Rows.topSizesSpec.post enc Tryd.prog Tryd.f8 false true false false) := by
  refine returnsInHanded_of_change_and (C := Tryd.checked) (X := fun w _ => laidMetH Tryd.prog laidL w) (fun _ _ _ hh h => h.of_heap hh) own started (by kernel_rfl) Tryd.func8
    (ChangeSpec.witness_shaped (enc := enc) (C := Tryd.checked) (os := os) (X := fun w _ => laidMetH Tryd.prog laidL w) false (World.laidAll Tryd.prog os laidL) #[.slice none 0 0, .slice none 0 0, .int .i64 0, .agg (a5A fun _ => 0), .int .i64 0] 8 (World.laidAll_os _ _ _)
      (World.shaped_of_ZipB (by kernel_rfl) (by kernel_rfl)) (by kernel_rfl) (by kernel_rfl) (by kernel_rfl)
      (by rw [MakeChecks.laidMetH_plain _ _ _ (by kernel_rfl)]; exact laidMet_laidAll _ (by kernel_rfl) (by kernel_rfl))) ?_
  intro W base args ds gs before hval0 hW _ _ hL _
  have hval : ∀ (j : Nat) t v, Tryd.f8.params[j]? = some t → args[j]? = some v → Value.okWide Tryd.prog W .any base t v := hval0
  have hW' := hW
  obtain ⟨p, q, hA0, hV, rfl, hfz, hnd⟩ := hW
  have hA : DataW.TrodAll enc Tryd.prog W 0 (fun _ => true) true Tryd.f8.params.toList args.toList ds p := hA0
  rw [Tryd.params8] at hA hval
  obtain ⟨v0, vs0, d0, ds0, p0, q0, hargs, rfl, rfl, h0, r0⟩ := trodAll_cons hA
  obtain ⟨v1, vs1, d1, ds1, p1, q1, rfl, rfl, rfl, h1, r1⟩ := trodAll_cons r0
  obtain ⟨v2, vs2, d2, ds2, p2, q2, rfl, rfl, rfl, h2, r2⟩ := trodAll_cons r1
  obtain ⟨v3, vs3, d3, ds3, p3, q3, rfl, rfl, rfl, h3, r3⟩ := trodAll_cons r2
  obtain ⟨v4, vs4, d4, ds4, p4, q4, rfl, rfl, rfl, h4, r4⟩ := trodAll_cons r3
  obtain ⟨rfl, rfl, rfl⟩ := trodAll_nil r4
  obtain rfl : args = #[v0, v1, v2, v3, v4] := by cases args; simp_all
  obtain ⟨rfl, rfl⟩ := trodVars_none hV
  obtain ⟨a0, len0, cap0, rfl⟩ := okWide_slice Tryd.underlying22 (hval 0 22 v0 rfl rfl)
  have k0 := h0
  have lt0 : ∀ x ∈ p0, x.block < W.heap.size := by obtain ⟨m, hm⟩ := k0; exact DataW.trod_lt m _ _ _ hm
  obtain ⟨x0, rfl, w0, cl0, cm0⟩ := open_szs h0
  obtain ⟨a1, len1, cap1, rfl⟩ := okWide_slice Tryd.underlying23 (hval 1 23 v1 rfl rfl)
  have k1 := h1
  have lt1 : ∀ x ∈ p1, x.block < W.heap.size := by obtain ⟨m, hm⟩ := k1; exact DataW.trod_lt m _ _ _ hm
  obtain ⟨x1, rfl, w1, cl1, cm1⟩ := open_hds h1
  obtain ⟨x2, rfl, rfl, rfl, w2⟩ := open_int Tryd.underlying3 (hval 2 3 v2 rfl rfl) h2
  have k3 := h3
  have lt3 : ∀ x ∈ p3, x.block < W.heap.size := by obtain ⟨m, hm⟩ := k3; exact DataW.trod_lt m _ _ _ hm
  obtain ⟨x3, rfl⟩ := open_five (okWide_five (hval 3 32 v3 rfl rfl)) h3
  obtain ⟨x4, rfl, rfl, rfl, w4⟩ := open_int Tryd.underlying3 (hval 4 3 v4 rfl rfl) h4
  have hT := tab_of_laid hL
  clear hA0 hval0 hL
  refine (law_sizes a0 a1 x0 x1 cap0 cap1 x2 x3 x4 W hT cl1 (Nat.le_trans cl1 cm1) w0 w1).mono fun e W' ⟨he, bel⟩ => ?_
  subst he
  exact ⟨_, rfl, _, _, _, [], _, [], hW', trodAll_mk1 (shut_bool Tryd.underlying4 _), (trodAll_cons_mk (Below.trod laidOut (by kernel_rfl) (of_decide_eq_true (by kernel_rfl)) k0 bel lt0) (trodAll_cons_mk (Below.trod laidOut (by kernel_rfl) (of_decide_eq_true (by kernel_rfl)) k1 bel lt1) (trodAll_cons_mk (shut_int Tryd.underlying3 w2) (trodAll_cons_mk (Below.trod laidOut (by kernel_rfl) (of_decide_eq_true (by kernel_rfl)) k3 bel lt3) (trodAll_cons_mk (shut_int Tryd.underlying3 w4) trodAll_mk0))))), rfl, bel.frame _, fun h => by cases h⟩

theorem over : Rows.topSizesRow.holds Tryd.pinned (OpenSpec.ofChange Rows.topSizesSpec) :=
  OpenClaim.holds_of_wide 8 Tryd.f8 rfl rfl rfl rfl rfl rfl rfl ⟨rfl, rfl, rfl, rfl, rfl⟩ rfl rfl rfl rfl rfl (by kernel_rfl) Tryd.func8 (by kernel_rfl)
    (of_decide_eq_true (by kernel_rfl)) (by unfold Func.isWrapper; first | (rw [if_pos (by decide +kernel)]; kernel_rfl) | (rw [if_neg (by decide +kernel)]; exact ⟨rfl, rfl⟩))
    (fun os started H enc _ => lifted os started H enc)

theorem proved : Rows.TopSizesCardSaid :=
  Claim7.holds_tied_plain_at .later [] [.data] true (true, "958cd4a62ffee29cc4cd35a34b6b07f5d0a07f27a9d0565cfca100f1d3563bb4") false over (fun _ h => by cases h) (by kernel_rfl) (fun _ h => by cases h) topSizes_row_tie rfl ⟨rfl, rfl⟩ (by kernel_rfl) rfl
    (fun f fn hf hfn => by
      obtain rfl : f = 8 := Option.some.inj ((show Tryd.prog.funcNamed "pantoscope/pantoscopetop.TopSizes" = some 8 by kernel_rfl).symm.trans hf) |>.symm
      obtain rfl : fn = Tryd.f8 := (Option.some.inj (Tryd.func8.symm.trans hfn)).symm
      exact ⟨by kernel_rfl, fun j t ht => by
        rw [Tryd.params8] at ht
        have hm : t ∈ [22, 23, 3, 32, 3] := by simpa using Array.mem_of_getElem? ht
        have hall : ([22, 23, 3, 32, 3].all fun u => !Tryd.prog.wantsStandIn u) = true := by kernel_rfl
        exact (show Tryd.prog.wantsStandIn t = false by simpa using List.all_eq_true.1 hall t hm)⟩)
    (by kernel_rfl)
end Go.Proofs.YtghbipipehglfaaDoor.topSizes
