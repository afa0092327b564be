/- Draw, of the program. -/
import Derived.Test.YtfkhlglagokodaaC1
import Derived.Test.YtfkhlglagokodaaE1
import Derived.Test.YtfkhlglagokodaaP9
import Derived.Test.YtfkhlglagokodaaShelf1
import Derived.Sort.OwnSortedInts
namespace Go.Proofs.Ytfkhlglagokodaa
open Go.RowKit Go.Shelf

theorem Only.setCells (g : Nat) : ∀ (vs : List Value) (o : Nat) (w : World), Only g w (w.setCells g o vs)
  | [], _, w => Only.refl g w
  | v :: r, o, w => (Only.setCell g w o v).trans (Only.setCells g r (o + 1) _)
theorem Only.drewN (g q : Nat) (w : World) : Only g w (w.drewN q) := ⟨rfl, rfl, rfl, rfl, fun _ _ => rfl⟩
theorem own_only {g B k n : Nat} {w w' : World} {t : TypeId} {v : Value} {xs : List Value} (h : w.ownsRow B t k v n xs) (ho : Only g w w') (hg : g < B) : w'.ownsRow B t k v n xs := by
  obtain ⟨h0, h1 | ⟨b, cap, cur, e, hb, hh, r⟩⟩ := h
  · exact ⟨h0, .inl h1⟩
  · exact ⟨h0, .inr ⟨b, cap, cur, e, hb, by rw [ho.block b (by omega)]; exact hh, r⟩⟩
/-- the numbers that are left lie in block b -/
structure LeftOk (w : World) (b : Nat) (l : List Nat) : Prop where
  lt : b < w.heap.size
  cell : ∀ (j p : Nat), l[j]? = some p → w.cell? ⟨b, j, none⟩ = some (.int .i64 (p : Nat))
  fr : ∀ j, w.frozen? ⟨b, j, none⟩ = false
theorem LeftOk.below {w w' : World} {b B : Nat} {l : List Nat} (h : LeftOk w b l) (hb : Below B w w') (hB : b < B) : LeftOk w' b l :=
  ⟨Nat.lt_of_lt_of_le h.lt hb.size, fun j p hj => (hb.cell (p := ⟨b, j, none⟩) hB).trans (h.cell j p hj), fun j => (hb.frozen (p := ⟨b, j, none⟩) hB).trans (h.fr j)⟩
theorem left_del {w : World} {b q i : Nat} {l : List Nat} (h : LeftOk w b l) (hi : i < l.length) {m : Nat} (hm : m = l.length) :
    LeftOk ((w.drewN q).setCells b 0 ((((l.map (fun n : Nat => (n : Int))).take m).take i ++ ((l.map (fun n : Nat => (n : Int))).take m).drop (i + 1) ++ List.replicate (i + 1 - i) 0).map (Value.int .i64))) b (l.eraseIdx i) := by
  subst hm
  have e : (((l.map (fun n : Nat => (n : Int))).take l.length).take i ++ ((l.map (fun n : Nat => (n : Int))).take l.length).drop (i + 1) ++ List.replicate (i + 1 - i) (0 : Int)) = (l.eraseIdx i).map (fun n : Nat => (n : Int)) ++ [0] := by
    rw [List.take_of_length_le (l := l.map _) (by rw [List.length_map]; exact Nat.le_refl _), show i + 1 - i = 1 from by omega, List.eraseIdx_eq_take_drop_succ, List.map_append, List.map_take, List.map_drop]
    rfl
  rw [e]
  have hlen : (l.eraseIdx i).length + 1 = l.length := by rw [List.length_eraseIdx_of_lt hi]; omega
  have hlt := h.lt
  have hfr := h.fr
  refine ⟨?_, fun j p hj => ?_, fun j => ?_⟩
  · rw [(Only.setCells b _ 0 (w.drewN q)).size]; exact hlt
  · have hjl : j < (l.eraseIdx i).length := (List.getElem?_eq_some_iff.1 hj).1
    have := World.cell?_setCells_in b (((l.eraseIdx i).map (fun n : Nat => (n : Int)) ++ [0]).map (Value.int .i64)) 0 (w.drewN q) (fun t ht => by
      have ht' : t < l.length := by simp at ht; omega
      rw [Nat.zero_add]
      show (w.cell? ⟨b, t, none⟩).isSome = true
      rw [h.cell t _ (List.getElem?_eq_getElem ht')]; rfl) j (by simp; omega)
    rw [Nat.zero_add] at this
    rw [this, List.getElem_map, List.getElem_append_left (by simpa using hjl), List.getElem_map, (List.getElem?_eq_some_iff.1 hj).2]
  · rw [World.frozen?_setCells]; exact hfr j
theorem flt_irc (d : List Nat) : flt irc d = (d.map (fun n : Nat => (n : Int))).map (Value.int .i64) := by
  induction d with
  | nil => rfl
  | cons x d ih => rw [flt_cons, ih]; rfl

/-- the program's own sorted list -/
theorem sort_ints (B : Nat) (v : Value) (d T : List Nat) (n : Nat) (hn : d.length = n) (h60 : n ≤ 60) (hT : (d.map (fun n : Nat => (n : Int))).mergeSort (fun x y => decide (x ≤ y)) = T.map (fun n : Nat => (n : Int))) (w : World)
    (hown : w.ownsRow B 3 1 v n (flt irc d)) :
    Calls Try.prog 58 #[v] w fun e w' => e = .returned (.tuple #[]) ∧ w'.ownsRow B 3 1 v n (flt irc T) ∧ Below B w w' := by
  subst hn
  have hlen : T.length = d.length := by
    have := congrArg List.length hT
    simp [List.length_mergeSort] at this
    omega
  have hh := hown
  rcases hown with ⟨h0, ⟨rfl, h1⟩ | ⟨g, cap, cur, rfl, hbase, hb, h1, h2, h3, h4⟩⟩
  · have eT : T = [] := List.eq_nil_of_length_eq_zero (by omega)
    subst eT
    have ed : d = [] := List.eq_nil_of_length_eq_zero h1
    subst ed
    refine (Try.slices_Sort_int_none none 0 w).mono fun e w' ⟨he, hw⟩ => ⟨he, ?_⟩
    subst hw
    exact ⟨hh, Below.refl _ _⟩
  · have hg : g < w.heap.size := (hh.lt g rfl).2
    have hH := holds_of_blockI (ss := d.map (fun n : Nat => (n : Int))) hb (by rw [List.length_map, ← flt_irc, ← h4, Nat.mul_one])
    have hcon := Try.slices_Sort_int g 0 cap (d.map (fun n : Nat => (n : Int))) w hH hg (by rw [List.length_map]; omega)
    rw [List.length_map] at hcon
    refine hcon.mono fun e w' ⟨he, k, os, hw⟩ => ⟨he, ?_⟩
    rw [hw, hT]
    have ho := ownsRow_sortedI (n := k) (os := os) (ss := d.map (fun n : Nat => (n : Int))) (ts := T.map (fun n : Nat => (n : Int))) (by rw [List.length_map, List.length_map, hlen]) hbase hb (by rw [List.length_map]; exact h1) h2 h3
    rw [List.length_map, ← flt_irc] at ho
    exact ⟨ho, (Below.refl B w).grown (grownBy_sortedI _) (by omega) (fun s e => by cases e; exact hbase)⟩

set_option maxRecDepth 100000 in
set_option maxHeartbeats 16000000 in
theorem Draw_b (x L s : Int) (w : World) :
    Calls Try.prog 38 #[.int .i64 x, .int .i64 L, .int .i64 s] w fun e w' => ∃ A c, e = .returned (.tuple #[.slice A (Pl.Dl x L s).length c, .int .i64 (Pl.De x L s)]) ∧ Rows irc 1 w' A (Pl.Dl x L s) ∧ (Pl.Dl x L s).length ≤ c ∧ Below w.heap.size w w' := by
  obtain ⟨v, hv⟩ : ∃ v, Pl.dok x L s = v := ⟨_, rfl⟩
  obtain ⟨x1, h1⟩ : ∃ z, Pl.inB 1 x 2147483646 = z := ⟨_, rfl⟩
  obtain ⟨x2, h2⟩ : ∃ z, Pl.inB 1 L 60 = z := ⟨_, rfl⟩
  obtain ⟨x3, h3⟩ : ∃ z, Pl.inB 0 s L = z := ⟨_, rfl⟩
  have H1 := Lib.hid h1
  have H2 := Lib.hid h2
  have H3 := Lib.hid h3
  have hx' : (x1 && (x2 && x3)) = v := by rw [← hv, ← h1, ← h2, ← h3]; rfl
  cases v with
  | false =>
    obtain ⟨e1, e2⟩ := Pl.dok_no hv
    have hc : x1 = false ∨ (x1 = true ∧ x2 = false) ∨ (x1 = true ∧ x2 = true ∧ x3 = false) := by cases x1 <;> cases x2 <;> cases x3 <;> simp_all
    rw [e1, e2]
    clear hv hx' h1 h2 h3 e1 e2
    rcases hc with rfl | ⟨rfl, rfl⟩ | ⟨rfl, rfl, rfl⟩ <;>
    (go_enter Try.func38, Try.ntmps38
     go_wp2_with (go_at_call 44; refine (within_any _ _ _ _).mono ?_; rintro e w1 ⟨rfl, rfl⟩; first | rw [H1.out] | rw [H2.out] | rw [H3.out])
     go_ret2
     exact ⟨none, 0, rfl, Rows.nil _ _, Nat.le_refl _, Below.refl _ _⟩)
  | true =>
    obtain ⟨y, l, n, rfl, rfl, rfl, q1, q2, q3, q4, q5, e1, e2⟩ := Pl.dok_ok hv
    rw [e1, e2]
    have HDL := Lib.hid (Pl.dl_len (L := l) (x := y) q5)
    obtain ⟨rfl, rfl, rfl⟩ : x1 = true ∧ x2 = true ∧ x3 = true := by cases x1 <;> cases x2 <;> cases x3 <;> simp_all
    obtain ⟨i0, hi0, hz0, hn0, hy0⟩ := info_parts info3f
    have HST := Lib.hid (fun k (hk : k < l) => Pl.rn_step (seed := y) hk)
    have HMM := Lib.hid (Pl.rn_mem l y n q5)
    have HLN := Lib.hid (fun k (hk : k ≤ l) => Pl.rn_len l y k hk)
    have HR0 : Hid (Pl.rn l y 0 = (y, (fun _ => false), [])) := Lib.hid rfl
    have HU0 : Hid (Pl.un l (Pl.rn l y 0).2.1 = List.range l) := Lib.hid (by
      show (List.range l).filter (fun _ => true) = _
      exact List.filter_eq_self.2 (fun _ _ => rfl))
    have HDD : Hid (Pl.dl y l n = Pl.tk l (Pl.rn l y n).2.1) := Lib.hid rfl
    have hl60 : l ≤ 60 := q4
    have hl1 : 1 ≤ l := q3
    have hnl : n ≤ l := q5
    have hy1 : y ≤ 2147483646 := q2
    clear hv hx' h1 h2 h3 e1 e2 q1 q2 q3 q4 q5
    go_enter Try.func38, Try.ntmps38
    go_wp2_with (go_at_call 44; refine (within_any _ _ _ _).mono ?_; rintro e w1 ⟨rfl, hw1⟩; rw [hw1]; clear hw1; first | rw [H1.out] | rw [H2.out] | rw [H3.out])
    go_loopw [8, 10, 28] (fun v _ j wr => ∃ i : Nat, i ≤ l ∧ j = .int .i64 i ∧ wr.ownsRow w.heap.size 3 1 v i (flt irc (List.range i)) ∧ Below w.heap.size w wr) (fun _ _ j _ => l - (intOf j).toNat)
    case atStart => exact ⟨0, Nat.zero_le _, rfl, World.ownsRow_nil _ _ _ _, Below.refl _ _⟩
    case round =>
      obtain ⟨i, hi1, rfl, hown, hB⟩ := hrel
      obtain ⟨wo, rfl⟩ : ∃ wo, wo = wr := ⟨_, rfl⟩
      by_cases hlt : i < l
      · have hltI : (i : Int) < (l : Int) := by omega
        have HE : Hid (flt irc (List.range (i + 1)) = flt irc (List.range i) ++ irc i) := Lib.hid (by rw [List.range_succ, flt_append, flt_one])
        have HOW := Lib.hid (hown.alloc (.cells (irc i).toArray 3))
        go_wp2_with (at_builtin; refine wpList_append_own _ rfl _ _ 33 rfl w.heap.size 3 i0 _ 1 8 Try.underlying33 hi0 hz0 hn0 hy0 rfl (by decide) _ _ _ rfl HOW.out ⟨wo.heap.size, 0, none⟩ 1 1 (irc i) rfl rfl (new_cells' _ _ _ rfl) (encIr.one i) (by unfold maxLen; omega) (by omega) (by have := hB.size; simp; omega) ?_; intro v' w9 hown' hgrow _)
        have hB9 := (hB.alloc hB.size (.cells (irc i).toArray 3)).grown hgrow (hB.alloc hB.size _).size (fun s e => (hown.lt s e).1)
        go_roundw
        case rel => exact ⟨i + 1, by omega, by go_num, by rw [HE.out]; exact hown', hB9⟩
        case measure => simp [intOf]; omega
      · obtain rfl : i = l := by omega
        -- the list of all is there
        have hown1 : wo.ownsRow w.heap.size 3 1 u8 (List.range i).length (flt irc (List.range i)) := by rw [List.length_range]; exact hown
        obtain ⟨A0, cL, hv0, hr0, hlc, hcm⟩ := rows_of_owns encIr hown1
        obtain ⟨bL, oL, rfl, hbL, hcL⟩ := hr0.open (by rw [List.length_range]; omega)
        rw [List.length_range] at hv0 hlc
        subst hv0
        obtain rfl : oL = 0 := by
          rcases hown.2 with ⟨e, _⟩ | ⟨g, cap, cur, e, _⟩
          · cases e
          · cases e; rfl
        have hLO : LeftOk wo bL (List.range i) := ⟨hbL, fun j p hj => by
          obtain ⟨hjl, e⟩ := List.getElem?_eq_some_iff.1 hj
          have := hcL j hjl 0 _ rfl
          rw [e] at this
          simpa using this, fun j => World.ownsRow.frozenAt hown j⟩
        have hbw : w.heap.size ≤ bL := (hown.lt bL rfl).1
        have hw0 : w.heap.size ≤ wo.heap.size := hB.size
        have hcm' : cL ≤ 9223372036854775807 := hcm
        rw [← HU0.out] at hLO
        have hLL : (Pl.un i (Pl.rn i y 0).2.1).length = i - 0 := HLN.out 0 (Nat.zero_le _)
        clear hown hown1 hr0 hcL
        go_wp2
        go_loopw [8, 9, 11, 12, 38] (fun vl vd vx _ j wr => ∃ k : Nat, k ≤ n ∧ j = .int .i64 k ∧ vx = .int .i64 (Pl.rn i y k).1 ∧ vl = .slice (some ⟨bL, 0, none⟩) (i - k) cL ∧ LeftOk wr bL (Pl.un i (Pl.rn i y k).2.1) ∧ wr.ownsRow wo.heap.size 3 1 vd k (flt irc (Pl.rn i y k).2.2) ∧ (Pl.rn i y k).1 ≤ 2147483646 ∧ wo.heap.size ≤ wr.heap.size ∧ Below w.heap.size w wr) (fun _ _ _ _ j _ => n - (intOf j).toNat)
        case atStart => exact ⟨0, Nat.zero_le _, rfl, rfl, rfl, hLO, World.ownsRow_nil _ _ _ _, hy1, Nat.le_refl _, hB⟩
        case round =>
          clear hLO hB hLL
          obtain ⟨k, hk, rfl, rfl, rfl, hL, hd, hx, hsz, hB⟩ := hrel
          obtain ⟨wp, rfl⟩ : ∃ wp, wp = wr := ⟨_, rfl⟩
          by_cases hlt2 : k < n
          · have hltI2 : (k : Int) < (n : Int) := by omega
            obtain ⟨X, Y, jj, p, t, t', d, d', U, U', g1, g2, g3, g4, g5, g6, g7, g8, g9, g10, g11, g12⟩ := HST.out k (by omega)
            rw [g1] at hL hd hx ⊢
            simp only [g3] at hL
            simp only at hd hx
            have hYb : Y ≤ 2147483646 := by omega
            obtain ⟨m, hm⟩ : ∃ m, i - k = m := ⟨_, rfl⟩
            have hm1 : m - 1 = i - (k + 1) := by omega
            simp only [hm] at g6 g7 g8 ⊢
            have q0 := hL.cell jj p g9
            have hbLp : bL < wo.heap.size := hbL
            have hsp : w.heap.size ≤ wo.heap.size := hw0
            have hm60 : m ≤ 60 := by omega
            have k1 : IntKind.i64.wrap ((X : Int) * 16807) = (X : Int) * 16807 := IntWalk.i64_in _ (by omega)
            have k2 : ((X : Int) * 16807).tmod 2147483647 = (Y : Int) := by rw [g5]; rfl
            have k3 : (X : Int) * 16807 % 2147483647 = (Y : Int) := by rw [g5]; rfl
            have k4 : (Y : Int).tmod (m : Int) = (jj : Int) := by rw [g6]; rfl
            have k5 : (Y : Int) % (m : Int) = (jj : Int) := by rw [g6]; rfl
            have k6 : ¬ (m : Int) = 0 := by omega
            have hjmI : (jj : Int) < (m : Int) := by omega
            have HOW := Lib.hid (hd.alloc (.cells (irc p).toArray 3))
            have HL := Lib.hid hL
            have HS := Lib.hid g8
            have HG2 := Lib.hid g2
            have HG4 := Lib.hid g4
            have HG11 : Hid (flt irc d' = flt irc d ++ irc p) := Lib.hid (by rw [g11, flt_append, flt_one])
            have HG12 := Lib.hid g12
            clear hL hd g1 g2 g3 g4 g5 g6 g8 g9 g10 g11 g12 hm
            go_wp2_with (at_builtin; refine wpList_append_own _ rfl _ _ 33 rfl wo.heap.size 3 i0 _ 1 8 Try.underlying33 hi0 hz0 hn0 hy0 rfl (by decide) _ _ _ rfl HOW.out ⟨wp.heap.size, 0, none⟩ 1 1 (irc p) rfl rfl (new_cells' _ _ _ rfl) (encIr.one p) (by unfold maxLen; omega) (by omega) (by simp; omega) ?_; intro v' w9 hown' hgrow _)
            have hBa := hB.alloc hB.size (.cells (irc p).toArray 3)
            have hB9 := hBa.grown hgrow hBa.size (fun s e => by have := (HOW.out.lt s e).1; omega)
            have hL9 : LeftOk w9 bL U := HL.out.below (((Below.refl wo.heap.size wp).alloc hsz (.cells (irc p).toArray 3)).grown hgrow (by have := hsz; simp; omega) (fun s e => (HOW.out.lt s e).1)) hbLp
            have hd9 : w9.ownsRow wo.heap.size 3 1 v' (k + 1) (flt irc d') := by rw [HG11.out]; exact hown'
            have hsz9 : wo.heap.size ≤ w9.heap.size := by have := hgrow.size; simp at this; omega
            have hcc : ∀ q, q < (U.map (fun n : Nat => (n : Int))).length → w9.cell? ⟨bL, 0 + q, none⟩ = some (.int .i64 ((U.map (fun n : Nat => (n : Int))).getD q 0)) := fun q hq => by
              have hq' : q < U.length := by simpa using hq
              rw [Nat.zero_add, hL9.cell q _ (List.getElem?_eq_getElem hq'), List.getD_eq_getElem?_getD, List.getElem?_map, List.getElem?_eq_getElem hq']
              rfl
            have HDEL := Lib.hid (Try.slices_Delete_int_cells bL 0 m cL jj (jj + 1) (U.map (fun n : Nat => (n : Int))) w9 (by rw [List.length_map, HS.out]; exact Nat.le_refl _) (by omega) hcm' (by omega) (by omega) hcc (fun q _ => by rw [Nat.zero_add]; exact hL9.fr q))
            have HLD := Lib.hid (fun q => left_del (q := q) hL9 (i := jj) (by rw [HS.out]; exact g7) (m := m) HS.out.symm)
            have HOD := Lib.hid hd9
            clear hcc hL9 hd9 hown'
            go_wp2_with fail
            rw [show ((jj : Int) + 1) = ((jj + 1 : Nat) : Int) from by omega]
            refine HDEL.out.mono ?_
            rintro e w10 ⟨rfl, q, hw10⟩
            have hL10 := HLD.out q
            have hO : Only bL w9 w10 := by rw [hw10]; exact (Only.drewN bL q w9).trans (Only.setCells bL _ 0 _)
            rw [← hw10] at hL10
            have hd10 := own_only HOD.out hO hbL
            have hB10 := hB9.trans (hO.below hbw)
            have hsz10 : wo.heap.size ≤ w10.heap.size := by rw [hO.size]; exact hsz9
            clear hw10 HDEL HLD HOD hO
            go_wp2
            go_roundw
            case rel =>
              refine ⟨k + 1, by omega, by go_num, ?_⟩
              rw [HG2.out]
              refine ⟨rfl, by first | rfl | rw [show m - (jj + 1 - jj) = i - (k + 1) from by omega], ?_, hd10, hYb, hsz10, hB10⟩
              show LeftOk _ bL (Pl.un i t')
              rw [HG4.out, HG12.out]
              exact hL10
            case measure => simp [intOf]; omega
          · obtain rfl : k = n := by omega
            obtain ⟨mm1, mm2, mm3⟩ := HMM.out
            have HSO := Lib.hid (sort_ints wo.heap.size u9 (Pl.rn i y k).2.2 (Pl.tk i (Pl.rn i y k).2.1) k mm2 (by omega) (Pl.sorted_tk mm1 mm3) wp hd)
            clear hd hL mm1 mm2 mm3
            go_wp2_with fail
            refine HSO.out.mono ?_
            rintro e w11 ⟨rfl, ho11, hB11⟩
            have hBz := hB.trans (hB11.mono hw0)
            have hto : w11.ownsRow w.heap.size 3 1 u9 (Pl.dl y i k).length (flt irc (Pl.dl y i k)) := by
              rw [HDL.out, HDD.out]
              refine ⟨ho11.1, ?_⟩
              rcases ho11.2 with h | ⟨g, cap, cur, e, hbase, r⟩
              · exact .inl h
              · exact .inr ⟨g, cap, cur, e, Nat.le_trans hw0 hbase, r⟩
            obtain ⟨A1, c1, hv1, hr1, hl1', hc1⟩ := rows_of_owns encIr hto
            subst hv1
            clear hto ho11 HSO
            go_wp2
            go_ret2
            exact ⟨A1, c1, rfl, hr1, hl1', hBz⟩
end Go.Proofs.Ytfkhlglagokodaa
