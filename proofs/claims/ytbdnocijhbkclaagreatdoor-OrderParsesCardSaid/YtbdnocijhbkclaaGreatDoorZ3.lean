/- The document's Parse. -/
import Derived.Test.YtbdnocijhbkclaaGreatDoorZ2
import Derived.Test.YtbdnocijhbkclaaGreatDoorPA
import Derived.Test.YtbdnocijhbkclaaGreatDoorYA
import Derived.Test.YtbdnocijhbkclaaGreatDoorXQ
namespace Go.Proofs.YtbdnocijhbkclaaGreatDoor
open Go.RowKit Go.Shelf Go.Sort Go.Lib

theorem own_ne_blk {W : World} {B g k n : Nat} {t t' : TypeId} {v : Value} {xs : List Value} {cs : Array Value} (h : W.ownsRow B t k v n xs) (hb : Blk W g t' cs) (ht : t ≠ t') : v.ownBlock ≠ some g := by
  intro e
  rcases h with ⟨_, ⟨rfl, _⟩ | ⟨g', cap, cur, rfl, _, hg, _⟩⟩
  · cases e
  · cases e
    unfold Blk at hb
    rw [hg] at hb
    injection hb with hb
    injection hb with _ h2 _
    exact ht h2
theorem Blk.grownBy {W W' : World} {g : Nat} {t : TypeId} {cs : Array Value} {v : Value} (h : Blk W g t cs) (hg : W.grownBy W' v.ownBlock) (hn : v.ownBlock ≠ some g) : Blk W' g t cs := (hg.block g h.lt (fun e => hn e.symm)).trans h
theorem blk_ne {W : World} {g : Nat} {t t' : TypeId} {cs cs' : Array Value} (h : Blk W g t cs) (h' : Blk W g t' cs') (ht : t ≠ t') : False := by
  unfold Blk at h h'
  rw [h] at h'
  injection h' with h'
  injection h' with _ h2 _
  exact ht h2
theorem tNF : (45 : TypeId) ≠ 24 := by decide
theorem tNS : (45 : TypeId) ≠ 9 := by decide
theorem cell_same {V W : World} {p : Addr} (h : V.heap[p.block]? = W.heap[p.block]?) : V.cell? p = W.cell? p := by unfold World.cell?; rw [h]
/-- an own row of words, opened -/
theorem sts_open {W : World} {B n : Nat} {v : Value} {l : List (List UInt8)} (h : W.ownsRow B 9 1 v n (sts l)) (hn : n = l.length) (h0 : 0 < n) :
    ∃ g cap cur, v = .slice (some ⟨g, 0, none⟩) n cap ∧ B ≤ g ∧ n ≤ cap ∧ cap ≤ maxLen ∧ Blk W g 9 cur ∧ ∀ (j : Nat) (hj : j < l.length), W.cell? ⟨g, j, none⟩ = some (.string ⟨l[j].toArray⟩) := by
  subst hn
  obtain ⟨g, cap, rfl⟩ := Joins.ownsRow_form h h0
  have hh := h
  rcases h.2 with ⟨h', _⟩ | ⟨g', cap', cur, hv, hB, hg, hc, hx, _⟩
  · cases h'
  cases hv
  refine ⟨g, cap, cur, rfl, hB, hc, hx, hg, fun j hj => ?_⟩
  rw [hh.cellAt j (by omega)]
  unfold sts
  rw [List.getElem?_map, List.getElem?_eq_getElem hj]; rfl
/-- what Parse gives: the form whose text this is, or ErrForm -/
def PRes (s : ByteArray) (w : World) (e : Ending) (w' : World) : Prop := ∃ (f : Pl.Fm) (E : Int), e = .returned (.tuple #[.agg (fmA f), .int .i64 E]) ∧ Below w.heap.size w w' ∧ FmIn w' f ∧
  ((E = 0 ∧ Pl.Vf f ∧ Pl.txt f = Pl.byt s) ∨ (E = 3 ∧ f = fm0 ∧ ∀ f' : Pl.Fm, Pl.Vf f' → Pl.txt f' ≠ Pl.byt s))
theorem fm0_in (W : World) : FmIn W fm0 := ⟨.inl rfl, Nat.le_refl _, Nat.zero_le _, fun y hy => (by cases hy), Nat.zero_le _, Nat.zero_le _⟩
theorem PRes.no {s : ByteArray} {w w' : World} (hb : Below w.heap.size w w') (h : ∀ f' : Pl.Fm, Pl.Vf f' → Pl.txt f' ≠ Pl.byt s) : PRes s w (.returned (.tuple #[.agg (fmA fm0), .int .i64 3])) w' := ⟨fm0, 3, rfl, hb, fm0_in _, .inr ⟨rfl, rfl, h⟩⟩
theorem PRes.yes {s : ByteArray} {w w' : World} {f : Pl.Fm} (hb : Below w.heap.size w w') (hi : FmIn w' f) (h : Pl.Vf f) (ht : Pl.txt f = Pl.byt s) : PRes s w (.returned (.tuple #[.agg (fmA f), .int .i64 0])) w' := ⟨f, 0, rfl, hb, hi, .inl ⟨rfl, h, ht⟩⟩
set_option maxRecDepth 100000 in
set_option maxHeartbeats 8000000 in
theorem rparse_any (s : ByteArray) (hs : s.size ≤ 3000) (w : World) : Calls Tryz.prog 11 #[.string s] w fun e w' => PRes s w e w' := by
  have z0 : fmA fm0 = #[.string ⟨#[]⟩, .int .i64 0, .string ⟨#[]⟩, .slice none 0 0] := rfl
  have hB0 := (Below.refl w.heap.size w).alloc (Nat.le_refl _) (.cells (fmA fm0) 24)
  have bZ := Blk.new w 24 (fmA fm0)
  have HS := Lib.hid (rsplit_any s 10 (by omega))
  obtain ⟨L, hL⟩ : ∃ L, Pl.spl 10 [] (Pl.byt s) = L := ⟨_, rfl⟩
  have hcnt := Pl.spl_count 10 (Pl.byt s) []
  have HLE : Hid (∀ x, x ∈ L → x.length ≤ 3000) := Lib.hid (fun x hx => by rw [← hL] at hx; have := Pl.spl_le 10 _ _ _ hx; have e : (Pl.byt s).length = s.size := rfl; simp at this; omega)
  have e0 : (Pl.byt s).length = s.size := rfl
  rw [hL] at HS hcnt
  have hn1 : 1 ≤ L.length := hcnt.1
  have hn2 : L.length ≤ 3001 := by omega
  have HL := Lib.hid hL
  have HB0 := Lib.hid hB0
  have HBZ := Lib.hid bZ
  have hlZ := bZ.lt
  clear hcnt e0 hB0 bZ hL hs
  obtain ⟨n, hn⟩ : ∃ n, L.length = n := ⟨_, rfl⟩
  rw [hn] at HS hn1 hn2
  have HN := Lib.hid hn
  clear hn
  have t10 : ((10 : UInt8).toNat : Int) = 10 := rfl
  rw [t10] at HS
  generalize hW0 : w.alloc (.cells (fmA fm0) 24) = W0 at *
  have t32 : ((32 : UInt8).toNat : Int) = 32 := rfl
  go_enter Tryz.func11, Tryz.ntmps11
  go_wp2_with fail
  try rw [← z0] at *
  try rw [hW0] at *
  refine (HS.out W0).mono ?_
  rintro e w4 ⟨v, rfl, hown, hb4⟩
  have HB4 := Lib.hid (HB0.out.trans (hb4.mono HB0.out.size))
  have HBZ4 := Lib.hid (HBZ.out.below hb4 hlZ)
  have hlZ4 := HBZ4.out.lt
  obtain ⟨gL, cL, curL, rfl, hgB, hcap, hmax, hbL, hcells⟩ := sts_open hown HN.out.symm (by omega)
  have hgl := hbL.lt
  have HCE := Lib.hid hcells
  clear hb4 hgB hown HBZ HB0 hlZ HS hcells hW0 hbL
  by_cases h5 : n < 5
  · have h5I : (n : Int) < 5 := by omega
    have HNO : Hid (∀ f' : Pl.Fm, Pl.Vf f' → Pl.txt f' ≠ Pl.byt s) := Lib.hid (fun f' hf' e' => by
      have := Pl.rdD_is (t := Pl.byt s) (o := none) (by rw [HL.out]; exact Pl.rdD_short (by rw [HN.out]; exact h5)) f' hf' e'
      cases this)
    clear h5
    go_wp2_with (refine st_fm (k := fm0) HBZ4.out rfl rfl _ _ rfl rfl rfl ?_; intro w9 hM9 hO9)
    have hB9 := HB4.out.trans (hO9.below (B := w.heap.size) (Nat.le_refl _))
    have HR := Lib.hid (PRes.no hB9 HNO.out)
    exact bodyPost_ret (v := .tuple #[.agg (fmA fm0), .int .i64 3]) (results_cell2 Tryz.results11 _ _ w.heap.size 24 (fmA fm0) (0, 0) _ rfl hM9 _ rfl Tryz.underlying24 rfl infoFm) rfl HR.out
  have d5 : decide ((n : Int) < 5) = false := by simp; omega
  have HC0 := Lib.hid (HCE.out 0 (by rw [HN.out]; omega))
  have HC1 := Lib.hid (HCE.out 1 (by rw [HN.out]; omega))
  have HC2 := Lib.hid (HCE.out 2 (by rw [HN.out]; omega))
  have HG0 : Hid (L.getD 0 [] = L[0]'(by rw [HN.out]; omega)) := Lib.hid (by rw [List.getD_eq_getElem?_getD, List.getElem?_eq_getElem (by rw [HN.out]; omega)]; rfl)
  have HG1 : Hid (L.getD 1 [] = L[1]'(by rw [HN.out]; omega)) := Lib.hid (by rw [List.getD_eq_getElem?_getD, List.getElem?_eq_getElem (by rw [HN.out]; omega)]; rfl)
  have HG2 : Hid (L.getD 2 [] = L[2]'(by rw [HN.out]; omega)) := Lib.hid (by rw [List.getD_eq_getElem?_getD, List.getElem?_eq_getElem (by rw [HN.out]; omega)]; rfl)
  rw [← HG0.out] at HC0
  rw [← HG1.out] at HC1
  rw [← HG2.out] at HC2
  have HM : Hid (∀ (j : Nat), (L.getD j []).length ≤ 3000) := Lib.hid (fun j => by
    rw [List.getD_eq_getElem?_getD]
    rcases Nat.lt_or_ge j L.length with h | h
    · rw [List.getElem?_eq_getElem h]; exact HLE.out _ (List.getElem_mem h)
    · rw [List.getElem?_eq_none h]; simp)
  obtain ⟨L0, hL0⟩ : ∃ x, L.getD 0 [] = x := ⟨_, rfl⟩
  obtain ⟨L1, hL1⟩ : ∃ x, L.getD 1 [] = x := ⟨_, rfl⟩
  obtain ⟨L2, hL2⟩ : ∃ x, L.getD 2 [] = x := ⟨_, rfl⟩
  have HL0 := Lib.hid hL0
  have HL1 := Lib.hid hL1
  have HL2 := Lib.hid hL2
  rw [hL0] at HC0
  rw [hL1] at HC1
  rw [hL2] at HC2
  clear hL0 hL1 hL2 HG0 HG1 HG2
  have HK0 := Lib.hid (rbehind_any ⟨L0.toArray⟩ ⟨#[79, 82, 68, 69, 82]⟩ (by decide))
  have HK1 := Lib.hid (rbehind_any ⟨L1.toArray⟩ ⟨#[68, 65, 89]⟩ (by decide))
  have HK2 := Lib.hid (rbehind_any ⟨L2.toArray⟩ ⟨#[73, 78]⟩ (by decide))
  have hy0 : Pl.byt (⟨L0.toArray⟩ : ByteArray) = L0 := by unfold Pl.byt; simp
  have hy1 : Pl.byt (⟨L1.toArray⟩ : ByteArray) = L1 := by unfold Pl.byt; simp
  have hy2 : Pl.byt (⟨L2.toArray⟩ : ByteArray) = L2 := by unfold Pl.byt; simp
  have hw0 : Pl.byt (⟨#[79, 82, 68, 69, 82]⟩ : ByteArray) = Pl.ordW := rfl
  have hw1 : Pl.byt (⟨#[68, 65, 89]⟩ : ByteArray) = Pl.dayW := rfl
  have hw2 : Pl.byt (⟨#[73, 78]⟩ : ByteArray) = Pl.inW := rfl
  rw [hy0, hw0] at HK0
  rw [hy1, hw1] at HK1
  rw [hy2, hw2] at HK2
  have HKN := Lib.hid (rnumber_any ⟨(Pl.bhd Pl.dayW L1).toArray⟩ (by rw [bsz]; have := Pl.bhd_le Pl.dayW L1; have := HM.out 1; rw [HL1.out] at this; omega))
  have hy3 : Pl.byt (⟨(Pl.bhd Pl.dayW L1).toArray⟩ : ByteArray) = Pl.bhd Pl.dayW L1 := by unfold Pl.byt; simp
  rw [hy3] at HKN
  have HRD : Hid (∀ xs, Pl.rdM ((L.drop 3).take (n - 4)) = some xs → Pl.rdD L = some ⟨Pl.bhd Pl.ordW L0, Pl.nmb (Pl.bhd Pl.dayW L1), Pl.bhd Pl.inW L2, xs⟩) := Lib.hid (fun xs h => by
    rw [Pl.rdD_good (by rw [HN.out]; omega) (by rw [HN.out]; exact h), HL0.out, HL1.out, HL2.out])
  have HSZ : Hid ((Pl.bhd Pl.ordW L0).length ≤ 3000 ∧ (Pl.bhd Pl.inW L2).length ≤ 3000) := Lib.hid ⟨by have := Pl.bhd_le Pl.ordW L0; have := HM.out 0; rw [HL0.out] at this; omega, by have := Pl.bhd_le Pl.inW L2; have := HM.out 2; rw [HL2.out] at this; omega⟩
  clear hy0 hy1 hy2 hy3 hw0 hw1 hw2 HL0 HL1 HL2
  generalize Pl.bhd Pl.ordW L0 = cus at *
  generalize Pl.bhd Pl.dayW L1 = dyt at *
  generalize Pl.bhd Pl.inW L2 = cur at *
  generalize Pl.nmb dyt = dy at *
  have g0 : 0 < n := by omega
  have g1 : 1 < n := by omega
  have g2 : 2 < n := by omega
  have g1i : (1 : Int) < (n : Int) := by omega
  have g2i : (2 : Int) < (n : Int) := by omega
  have q0 := fun s : Ext w4 => s.cell HC0.out
  have q1 := fun s : Ext w4 => s.cell HC1.out
  have q2 := fun s : Ext w4 => s.cell HC2.out
  go_wp2_with fail
  refine Code.wp_mono (Q := fun e' a' w' => e' = .normal ∧ ∃ (gF : Nat) (y16 y17 y18 y19 y20 y21 y22 y23 y24 y25 y26 y27 y28 y29 : Value), a' = { tmps := #[.string s, undef, .pointer (some ⟨w.heap.size, 0, none⟩), .int .i64 0, .slice (some ⟨gL, 0, none⟩) n cL, .pointer (some ⟨gF, 0, none⟩), undef, undef, undef, undef, .string s, .slice (some ⟨gL, 0, none⟩) n cL, .slice (some ⟨gL, 0, none⟩) n cL, .int .i64 n, .bool false, undef, y16, y17, y18, y19, y20, y21, y22, y23, y24, y25, y26, y27, y28, y29, undef, undef, undef, undef, undef, undef, undef, undef, undef, undef, undef, undef, undef, undef, undef, undef, undef, undef, undef, undef, undef, undef, undef, undef, undef, undef, undef, undef, undef, undef, undef, undef, undef, undef, undef, undef, undef, undef, undef, undef, undef, undef, undef, undef, undef, undef, undef, undef, undef, undef, undef], defers := [] } ∧ w4.heap.size ≤ gF ∧ Blk w' gF 24 #[.string ⟨cus.toArray⟩, .int .i64 dy, .string ⟨cur.toArray⟩, .slice none 0 0] ∧ Below w4.heap.size w4 w') ?goon ?region
  case region =>
    refine wp_region_held (S := fun V9 => ∃ s : Ext w4, V9 = s.w) (by kernel_rfl) ?_
    change wpAnyH _ _ _ _ _ _ _ _ (World.drew _)
    have hS : ∃ s : Ext w4, (World.drew w4) = s.w := ⟨⟨_, (Below.refl _ _).drew⟩, rfl⟩
    generalize World.drew w4 = w4d at *
    refine takeD (i := 0) (d := (some 16)) (v := ?_) rfl rfl (by kernel_rfl) (by decide +kernel) (by decide +kernel) (fun _ _ _ h => by cases h.1) (Or.inl ⟨by first | kernel_rfl | rfl, ?_⟩) hS ?_
    rotate_left
    · intro w' hT; obtain ⟨s, rfl⟩ := hT; have p0 := q0 s; have p1 := q1 s; have p2 := q2 s; first | (go_simp; done) | (go_simp; with_reducible rfl)
    refine takeD (i := 1) (d := (some 17)) (v := ?_) rfl rfl (by kernel_rfl) (by decide +kernel) (by decide +kernel) (fun _ _ _ h => by cases h.1) (Or.inl ⟨by first | kernel_rfl | rfl, ?_⟩) hS ?_
    rotate_left
    · intro w' hT; obtain ⟨s, rfl⟩ := hT; have p0 := q0 s; have p1 := q1 s; have p2 := q2 s; first | (go_simp; done) | (go_simp; with_reducible rfl)
    refine takeD (i := 2) (d := (some 18)) (v := ?_) rfl rfl (by kernel_rfl) (by decide +kernel) (by decide +kernel) (fun _ _ _ h => by cases h.1) (Or.inl ⟨by first | kernel_rfl | rfl, ?_⟩) hS ?_
    rotate_left
    · intro w' hT; obtain ⟨s, rfl⟩ := hT; have p0 := q0 s; have p1 := q1 s; have p2 := q2 s; first | (go_simp; done) | (go_simp; with_reducible rfl)
    refine takeD (i := 4) (d := (some 20)) (v := ?_) rfl rfl (by kernel_rfl) (by decide +kernel) (by decide +kernel) (fun _ _ _ h => by cases h.1) (Or.inl ⟨by first | kernel_rfl | rfl, ?_⟩) hS ?_
    rotate_left
    · intro w' hT; obtain ⟨s, rfl⟩ := hT; have p0 := q0 s; have p1 := q1 s; have p2 := q2 s; first | (go_simp; done) | (go_simp; with_reducible rfl)
    refine takeD (i := 5) (d := (some 21)) (v := ?_) rfl rfl (by kernel_rfl) (by decide +kernel) (by decide +kernel) (fun _ _ _ h => by cases h.1) (Or.inl ⟨by first | kernel_rfl | rfl, ?_⟩) hS ?_
    rotate_left
    · intro w' hT; obtain ⟨s, rfl⟩ := hT; have p0 := q0 s; have p1 := q1 s; have p2 := q2 s; first | (go_simp; done) | (go_simp; with_reducible rfl)
    refine takeD (i := 6) (d := (some 22)) (v := ?_) rfl rfl (by kernel_rfl) (by decide +kernel) (by decide +kernel) (fun _ _ _ h => by cases h.1) (Or.inl ⟨by first | kernel_rfl | rfl, ?_⟩) hS ?_
    rotate_left
    · intro w' hT; obtain ⟨s, rfl⟩ := hT; have p0 := q0 s; have p1 := q1 s; have p2 := q2 s; first | (go_simp; done) | (go_simp; with_reducible rfl)
    refine takeD (i := 9) (d := (some 25)) (v := ?_) rfl rfl (by kernel_rfl) (by decide +kernel) (by decide +kernel) (fun _ _ _ h => by cases h.1) (Or.inl ⟨by first | kernel_rfl | rfl, ?_⟩) hS ?_
    rotate_left
    · intro w' hT; obtain ⟨s, rfl⟩ := hT; have p0 := q0 s; have p1 := q1 s; have p2 := q2 s; first | (go_simp; done) | (go_simp; with_reducible rfl)
    refine takeD (i := 10) (d := (some 26)) (v := ?_) rfl rfl (by kernel_rfl) (by decide +kernel) (by decide +kernel) (fun _ _ _ h => by cases h.1) (Or.inl ⟨by first | kernel_rfl | rfl, ?_⟩) hS ?_
    rotate_left
    · intro w' hT; obtain ⟨s, rfl⟩ := hT; have p0 := q0 s; have p1 := q1 s; have p2 := q2 s; first | (go_simp; done) | (go_simp; with_reducible rfl)
    refine takeD (i := 11) (d := (some 27)) (v := ?_) rfl rfl (by kernel_rfl) (by decide +kernel) (by decide +kernel) (fun _ _ _ h => by cases h.1) (Or.inl ⟨by first | kernel_rfl | rfl, ?_⟩) hS ?_
    rotate_left
    · intro w' hT; obtain ⟨s, rfl⟩ := hT; have p0 := q0 s; have p1 := q1 s; have p2 := q2 s; first | (go_simp; done) | (go_simp; with_reducible rfl)
    refine actNorm (fun a' ha => ?_); (try simp [go_sem] at ha); subst ha
    refine wpAnyH_all (rs := [3, 14]) (by decide +kernel) (by simp) ?_
    intro i0 hi0
    obtain rfl | rfl : i0 = 3 ∨ i0 = 14 := by simpa using hi0
    clear hi0
    · skip
      refine wpOp_goE rfl (by kernel_rfl) (fun K hK => ?_)
      go_simp
      refine (HK0.out _).mono ?_
      rintro e W1 ⟨rfl, hw⟩
      have hw := hw.symm
      subst hw
      refine hK _ _ ⟨hS, ?_⟩
      clear hK K
      refine actNorm (fun a' ha => ?_); (try simp [go_sem] at ha); subst ha
      refine wpAnyH_all (rs := [7, 14]) (by decide +kernel) (by simp) ?_
      intro i0 hi0
      obtain rfl | rfl : i0 = 7 ∨ i0 = 14 := by simpa using hi0
      clear hi0
      · skip
        refine wpOp_goE rfl (by kernel_rfl) (fun K hK => ?_)
        go_simp
        refine (HK1.out _).mono ?_
        rintro e W1 ⟨rfl, hw⟩
        have hw := hw.symm
        subst hw
        refine hK _ _ ⟨hS, ?_⟩
        clear hK K
        refine actNorm (fun a' ha => ?_); (try simp [go_sem] at ha); subst ha
        refine wpAnyH_all (rs := [8, 14]) (by decide +kernel) (by simp) ?_
        intro i0 hi0
        obtain rfl | rfl : i0 = 8 ∨ i0 = 14 := by simpa using hi0
        clear hi0
        · skip
          refine wpOp_goE rfl (by kernel_rfl) (fun K hK => ?_)
          go_simp
          refine (HKN.out _).mono ?_
          rintro e W1 ⟨rfl, hw⟩
          have hw := hw.symm
          subst hw
          refine hK _ _ ⟨hS, ?_⟩
          clear hK K
          refine actNorm (fun a' ha => ?_); (try simp [go_sem] at ha); subst ha
          refine wpAnyH_all (rs := [12, 14]) (by decide +kernel) (by simp) ?_
          intro i0 hi0
          obtain rfl | rfl : i0 = 12 ∨ i0 = 14 := by simpa using hi0
          clear hi0
          · skip
            refine wpOp_goE rfl (by kernel_rfl) (fun K hK => ?_)
            go_simp
            refine (HK2.out _).mono ?_
            rintro e W1 ⟨rfl, hw⟩
            have hw := hw.symm
            subst hw
            refine hK _ _ ⟨hS, ?_⟩
            clear hK K
            refine actNorm (fun a' ha => ?_); (try simp [go_sem] at ha); subst ha
            refine takeD (i := 13) (d := (some 29)) (v := ?_) rfl rfl (by kernel_rfl) (by decide +kernel) (by decide +kernel) (fun _ _ _ h => by cases h.1) (Or.inl ⟨by first | kernel_rfl | rfl, ?_⟩) hS ?_
            rotate_left
            · intro w' hT; obtain ⟨s, rfl⟩ := hT; first | (go_simp; done) | (go_simp; with_reducible rfl)
            refine actNorm (fun a' ha => ?_); (try simp [go_sem] at ha); subst ha
            refine wpAnyH_all (rs := [14]) (by decide +kernel) (by simp) ?_
            intro i0 hi0
            have hi1 := List.mem_singleton.1 hi0
            clear hi0
            subst hi1
            refine wpOp_goE rfl (by kernel_rfl) (fun K hK => ?_)
            go_simp
            obtain ⟨s0, hs0⟩ := hS
            have hs1 : Below w4.heap.size w4 w4d := by rw [hs0]; exact s0.h
            have hS : ∃ s : Ext w4, w4d.alloc (.cells #[.string ⟨#[]⟩, .int .i64 0, .string ⟨#[]⟩, .slice none 0 0] 24) = s.w := ⟨⟨_, hs1.alloc hs1.size _⟩, rfl⟩
            have bF := Blk.new w4d 24 #[.string ⟨#[]⟩, .int .i64 0, .string ⟨#[]⟩, .slice none 0 0]
            have hgF := hs1.size
            clear hs1 hs0 s0
            refine hK _ _ ⟨hS, ?_⟩
            clear hK K
            generalize w4d.alloc (.cells #[.string ⟨#[]⟩, .int .i64 0, .string ⟨#[]⟩, .slice none 0 0] 24) = wa at *
            generalize w4d.heap.size = gF at *
            refine actNorm (fun a' ha => ?_); (try simp [go_sem] at ha); subst ha
            refine wpAnyH_all (rs := [15]) (by decide +kernel) (by simp) ?_
            intro i0 hi0
            have hi1 := List.mem_singleton.1 hi0
            clear hi0
            subst hi1
            refine wpOp_goE rfl (by kernel_rfl) (fun K hK => ?_)
            obtain ⟨s0, hs0⟩ := hS
            have hs1 : Below w4.heap.size w4 wa := by rw [hs0]; exact s0.h
            have hO := Only.setRow gF wa (fmA ⟨⟨cus.toArray⟩, dy, ⟨cur.toArray⟩, [], none, 0⟩)
            have hs2 := hs1.trans (hO.below hgF)
            have hb2 : Blk (wa.setRow gF (fmA ⟨⟨cus.toArray⟩, dy, ⟨cur.toArray⟩, [], none, 0⟩)) gF 24 (fmA ⟨⟨cus.toArray⟩, dy, ⟨cur.toArray⟩, [], none, 0⟩) := blk_setRow bF
            refine wp_store_row 24 (.tmp 5) (.tmp 29) rfl gF (fmA ⟨⟨cus.toArray⟩, dy, ⟨cur.toArray⟩, [], none, 0⟩) rfl rfl 24 _ bF infoFm rfl (fm_all _) (hK _ _ ⟨⟨⟨_, hs2⟩, rfl⟩, ?_⟩)
            refine wpAnyH_done (by decide +kernel) ?_ _
            exact ⟨rfl, gF, _, _, _, _, _, _, _, _, _, _, _, _, _, _, rfl, hgF, hb2, hs2⟩
          · skip
            refine wpOp_goE rfl (by kernel_rfl) (fun K hK => ?_)
            go_simp
            obtain ⟨s0, hs0⟩ := hS
            have hs1 : Below w4.heap.size w4 w4d := by rw [hs0]; exact s0.h
            have hS : ∃ s : Ext w4, w4d.alloc (.cells #[.string ⟨#[]⟩, .int .i64 0, .string ⟨#[]⟩, .slice none 0 0] 24) = s.w := ⟨⟨_, hs1.alloc hs1.size _⟩, rfl⟩
            have bF := Blk.new w4d 24 #[.string ⟨#[]⟩, .int .i64 0, .string ⟨#[]⟩, .slice none 0 0]
            have hgF := hs1.size
            clear hs1 hs0 s0
            refine hK _ _ ⟨hS, ?_⟩
            clear hK K
            generalize w4d.alloc (.cells #[.string ⟨#[]⟩, .int .i64 0, .string ⟨#[]⟩, .slice none 0 0] 24) = wa at *
            generalize w4d.heap.size = gF at *
            refine actNorm (fun a' ha => ?_); (try simp [go_sem] at ha); subst ha
            refine wpAnyH_all (rs := [12]) (by decide +kernel) (by simp) ?_
            intro i0 hi0
            have hi1 := List.mem_singleton.1 hi0
            clear hi0
            subst hi1
            refine wpOp_goE rfl (by kernel_rfl) (fun K hK => ?_)
            go_simp
            refine (HK2.out _).mono ?_
            rintro e W1 ⟨rfl, hw⟩
            have hw := hw.symm
            subst hw
            refine hK _ _ ⟨hS, ?_⟩
            clear hK K
            refine actNorm (fun a' ha => ?_); (try simp [go_sem] at ha); subst ha
            refine takeD (i := 13) (d := (some 29)) (v := ?_) rfl rfl (by kernel_rfl) (by decide +kernel) (by decide +kernel) (fun _ _ _ h => by cases h.1) (Or.inl ⟨by first | kernel_rfl | rfl, ?_⟩) hS ?_
            rotate_left
            · intro w' hT; obtain ⟨s, rfl⟩ := hT; first | (go_simp; done) | (go_simp; with_reducible rfl)
            refine actNorm (fun a' ha => ?_); (try simp [go_sem] at ha); subst ha
            refine wpAnyH_all (rs := [15]) (by decide +kernel) (by simp) ?_
            intro i0 hi0
            have hi1 := List.mem_singleton.1 hi0
            clear hi0
            subst hi1
            refine wpOp_goE rfl (by kernel_rfl) (fun K hK => ?_)
            obtain ⟨s0, hs0⟩ := hS
            have hs1 : Below w4.heap.size w4 wa := by rw [hs0]; exact s0.h
            have hO := Only.setRow gF wa (fmA ⟨⟨cus.toArray⟩, dy, ⟨cur.toArray⟩, [], none, 0⟩)
            have hs2 := hs1.trans (hO.below hgF)
            have hb2 : Blk (wa.setRow gF (fmA ⟨⟨cus.toArray⟩, dy, ⟨cur.toArray⟩, [], none, 0⟩)) gF 24 (fmA ⟨⟨cus.toArray⟩, dy, ⟨cur.toArray⟩, [], none, 0⟩) := blk_setRow bF
            refine wp_store_row 24 (.tmp 5) (.tmp 29) rfl gF (fmA ⟨⟨cus.toArray⟩, dy, ⟨cur.toArray⟩, [], none, 0⟩) rfl rfl 24 _ bF infoFm rfl (fm_all _) (hK _ _ ⟨⟨⟨_, hs2⟩, rfl⟩, ?_⟩)
            refine wpAnyH_done (by decide +kernel) ?_ _
            exact ⟨rfl, gF, _, _, _, _, _, _, _, _, _, _, _, _, _, _, rfl, hgF, hb2, hs2⟩
        · skip
          refine wpOp_goE rfl (by kernel_rfl) (fun K hK => ?_)
          go_simp
          obtain ⟨s0, hs0⟩ := hS
          have hs1 : Below w4.heap.size w4 w4d := by rw [hs0]; exact s0.h
          have hS : ∃ s : Ext w4, w4d.alloc (.cells #[.string ⟨#[]⟩, .int .i64 0, .string ⟨#[]⟩, .slice none 0 0] 24) = s.w := ⟨⟨_, hs1.alloc hs1.size _⟩, rfl⟩
          have bF := Blk.new w4d 24 #[.string ⟨#[]⟩, .int .i64 0, .string ⟨#[]⟩, .slice none 0 0]
          have hgF := hs1.size
          clear hs1 hs0 s0
          refine hK _ _ ⟨hS, ?_⟩
          clear hK K
          generalize w4d.alloc (.cells #[.string ⟨#[]⟩, .int .i64 0, .string ⟨#[]⟩, .slice none 0 0] 24) = wa at *
          generalize w4d.heap.size = gF at *
          refine actNorm (fun a' ha => ?_); (try simp [go_sem] at ha); subst ha
          refine wpAnyH_all (rs := [8]) (by decide +kernel) (by simp) ?_
          intro i0 hi0
          have hi1 := List.mem_singleton.1 hi0
          clear hi0
          subst hi1
          refine wpOp_goE rfl (by kernel_rfl) (fun K hK => ?_)
          go_simp
          refine (HKN.out _).mono ?_
          rintro e W1 ⟨rfl, hw⟩
          have hw := hw.symm
          subst hw
          refine hK _ _ ⟨hS, ?_⟩
          clear hK K
          refine actNorm (fun a' ha => ?_); (try simp [go_sem] at ha); subst ha
          refine wpAnyH_all (rs := [12]) (by decide +kernel) (by simp) ?_
          intro i0 hi0
          have hi1 := List.mem_singleton.1 hi0
          clear hi0
          subst hi1
          refine wpOp_goE rfl (by kernel_rfl) (fun K hK => ?_)
          go_simp
          refine (HK2.out _).mono ?_
          rintro e W1 ⟨rfl, hw⟩
          have hw := hw.symm
          subst hw
          refine hK _ _ ⟨hS, ?_⟩
          clear hK K
          refine actNorm (fun a' ha => ?_); (try simp [go_sem] at ha); subst ha
          refine takeD (i := 13) (d := (some 29)) (v := ?_) rfl rfl (by kernel_rfl) (by decide +kernel) (by decide +kernel) (fun _ _ _ h => by cases h.1) (Or.inl ⟨by first | kernel_rfl | rfl, ?_⟩) hS ?_
          rotate_left
          · intro w' hT; obtain ⟨s, rfl⟩ := hT; first | (go_simp; done) | (go_simp; with_reducible rfl)
          refine actNorm (fun a' ha => ?_); (try simp [go_sem] at ha); subst ha
          refine wpAnyH_all (rs := [15]) (by decide +kernel) (by simp) ?_
          intro i0 hi0
          have hi1 := List.mem_singleton.1 hi0
          clear hi0
          subst hi1
          refine wpOp_goE rfl (by kernel_rfl) (fun K hK => ?_)
          obtain ⟨s0, hs0⟩ := hS
          have hs1 : Below w4.heap.size w4 wa := by rw [hs0]; exact s0.h
          have hO := Only.setRow gF wa (fmA ⟨⟨cus.toArray⟩, dy, ⟨cur.toArray⟩, [], none, 0⟩)
          have hs2 := hs1.trans (hO.below hgF)
          have hb2 : Blk (wa.setRow gF (fmA ⟨⟨cus.toArray⟩, dy, ⟨cur.toArray⟩, [], none, 0⟩)) gF 24 (fmA ⟨⟨cus.toArray⟩, dy, ⟨cur.toArray⟩, [], none, 0⟩) := blk_setRow bF
          refine wp_store_row 24 (.tmp 5) (.tmp 29) rfl gF (fmA ⟨⟨cus.toArray⟩, dy, ⟨cur.toArray⟩, [], none, 0⟩) rfl rfl 24 _ bF infoFm rfl (fm_all _) (hK _ _ ⟨⟨⟨_, hs2⟩, rfl⟩, ?_⟩)
          refine wpAnyH_done (by decide +kernel) ?_ _
          exact ⟨rfl, gF, _, _, _, _, _, _, _, _, _, _, _, _, _, _, rfl, hgF, hb2, hs2⟩
      · skip
        refine wpOp_goE rfl (by kernel_rfl) (fun K hK => ?_)
        go_simp
        obtain ⟨s0, hs0⟩ := hS
        have hs1 : Below w4.heap.size w4 w4d := by rw [hs0]; exact s0.h
        have hS : ∃ s : Ext w4, w4d.alloc (.cells #[.string ⟨#[]⟩, .int .i64 0, .string ⟨#[]⟩, .slice none 0 0] 24) = s.w := ⟨⟨_, hs1.alloc hs1.size _⟩, rfl⟩
        have bF := Blk.new w4d 24 #[.string ⟨#[]⟩, .int .i64 0, .string ⟨#[]⟩, .slice none 0 0]
        have hgF := hs1.size
        clear hs1 hs0 s0
        refine hK _ _ ⟨hS, ?_⟩
        clear hK K
        generalize w4d.alloc (.cells #[.string ⟨#[]⟩, .int .i64 0, .string ⟨#[]⟩, .slice none 0 0] 24) = wa at *
        generalize w4d.heap.size = gF at *
        refine actNorm (fun a' ha => ?_); (try simp [go_sem] at ha); subst ha
        refine wpAnyH_all (rs := [7]) (by decide +kernel) (by simp) ?_
        intro i0 hi0
        have hi1 := List.mem_singleton.1 hi0
        clear hi0
        subst hi1
        refine wpOp_goE rfl (by kernel_rfl) (fun K hK => ?_)
        go_simp
        refine (HK1.out _).mono ?_
        rintro e W1 ⟨rfl, hw⟩
        have hw := hw.symm
        subst hw
        refine hK _ _ ⟨hS, ?_⟩
        clear hK K
        refine actNorm (fun a' ha => ?_); (try simp [go_sem] at ha); subst ha
        refine wpAnyH_all (rs := [8]) (by decide +kernel) (by simp) ?_
        intro i0 hi0
        have hi1 := List.mem_singleton.1 hi0
        clear hi0
        subst hi1
        refine wpOp_goE rfl (by kernel_rfl) (fun K hK => ?_)
        go_simp
        refine (HKN.out _).mono ?_
        rintro e W1 ⟨rfl, hw⟩
        have hw := hw.symm
        subst hw
        refine hK _ _ ⟨hS, ?_⟩
        clear hK K
        refine actNorm (fun a' ha => ?_); (try simp [go_sem] at ha); subst ha
        refine wpAnyH_all (rs := [12]) (by decide +kernel) (by simp) ?_
        intro i0 hi0
        have hi1 := List.mem_singleton.1 hi0
        clear hi0
        subst hi1
        refine wpOp_goE rfl (by kernel_rfl) (fun K hK => ?_)
        go_simp
        refine (HK2.out _).mono ?_
        rintro e W1 ⟨rfl, hw⟩
        have hw := hw.symm
        subst hw
        refine hK _ _ ⟨hS, ?_⟩
        clear hK K
        refine actNorm (fun a' ha => ?_); (try simp [go_sem] at ha); subst ha
        refine takeD (i := 13) (d := (some 29)) (v := ?_) rfl rfl (by kernel_rfl) (by decide +kernel) (by decide +kernel) (fun _ _ _ h => by cases h.1) (Or.inl ⟨by first | kernel_rfl | rfl, ?_⟩) hS ?_
        rotate_left
        · intro w' hT; obtain ⟨s, rfl⟩ := hT; first | (go_simp; done) | (go_simp; with_reducible rfl)
        refine actNorm (fun a' ha => ?_); (try simp [go_sem] at ha); subst ha
        refine wpAnyH_all (rs := [15]) (by decide +kernel) (by simp) ?_
        intro i0 hi0
        have hi1 := List.mem_singleton.1 hi0
        clear hi0
        subst hi1
        refine wpOp_goE rfl (by kernel_rfl) (fun K hK => ?_)
        obtain ⟨s0, hs0⟩ := hS
        have hs1 : Below w4.heap.size w4 wa := by rw [hs0]; exact s0.h
        have hO := Only.setRow gF wa (fmA ⟨⟨cus.toArray⟩, dy, ⟨cur.toArray⟩, [], none, 0⟩)
        have hs2 := hs1.trans (hO.below hgF)
        have hb2 : Blk (wa.setRow gF (fmA ⟨⟨cus.toArray⟩, dy, ⟨cur.toArray⟩, [], none, 0⟩)) gF 24 (fmA ⟨⟨cus.toArray⟩, dy, ⟨cur.toArray⟩, [], none, 0⟩) := blk_setRow bF
        refine wp_store_row 24 (.tmp 5) (.tmp 29) rfl gF (fmA ⟨⟨cus.toArray⟩, dy, ⟨cur.toArray⟩, [], none, 0⟩) rfl rfl 24 _ bF infoFm rfl (fm_all _) (hK _ _ ⟨⟨⟨_, hs2⟩, rfl⟩, ?_⟩)
        refine wpAnyH_done (by decide +kernel) ?_ _
        exact ⟨rfl, gF, _, _, _, _, _, _, _, _, _, _, _, _, _, _, rfl, hgF, hb2, hs2⟩
    · skip
      refine wpOp_goE rfl (by kernel_rfl) (fun K hK => ?_)
      go_simp
      obtain ⟨s0, hs0⟩ := hS
      have hs1 : Below w4.heap.size w4 w4d := by rw [hs0]; exact s0.h
      have hS : ∃ s : Ext w4, w4d.alloc (.cells #[.string ⟨#[]⟩, .int .i64 0, .string ⟨#[]⟩, .slice none 0 0] 24) = s.w := ⟨⟨_, hs1.alloc hs1.size _⟩, rfl⟩
      have bF := Blk.new w4d 24 #[.string ⟨#[]⟩, .int .i64 0, .string ⟨#[]⟩, .slice none 0 0]
      have hgF := hs1.size
      clear hs1 hs0 s0
      refine hK _ _ ⟨hS, ?_⟩
      clear hK K
      generalize w4d.alloc (.cells #[.string ⟨#[]⟩, .int .i64 0, .string ⟨#[]⟩, .slice none 0 0] 24) = wa at *
      generalize w4d.heap.size = gF at *
      refine actNorm (fun a' ha => ?_); (try simp [go_sem] at ha); subst ha
      refine wpAnyH_all (rs := [3]) (by decide +kernel) (by simp) ?_
      intro i0 hi0
      have hi1 := List.mem_singleton.1 hi0
      clear hi0
      subst hi1
      refine wpOp_goE rfl (by kernel_rfl) (fun K hK => ?_)
      go_simp
      refine (HK0.out _).mono ?_
      rintro e W1 ⟨rfl, hw⟩
      have hw := hw.symm
      subst hw
      refine hK _ _ ⟨hS, ?_⟩
      clear hK K
      refine actNorm (fun a' ha => ?_); (try simp [go_sem] at ha); subst ha
      refine wpAnyH_all (rs := [7]) (by decide +kernel) (by simp) ?_
      intro i0 hi0
      have hi1 := List.mem_singleton.1 hi0
      clear hi0
      subst hi1
      refine wpOp_goE rfl (by kernel_rfl) (fun K hK => ?_)
      go_simp
      refine (HK1.out _).mono ?_
      rintro e W1 ⟨rfl, hw⟩
      have hw := hw.symm
      subst hw
      refine hK _ _ ⟨hS, ?_⟩
      clear hK K
      refine actNorm (fun a' ha => ?_); (try simp [go_sem] at ha); subst ha
      refine wpAnyH_all (rs := [8]) (by decide +kernel) (by simp) ?_
      intro i0 hi0
      have hi1 := List.mem_singleton.1 hi0
      clear hi0
      subst hi1
      refine wpOp_goE rfl (by kernel_rfl) (fun K hK => ?_)
      go_simp
      refine (HKN.out _).mono ?_
      rintro e W1 ⟨rfl, hw⟩
      have hw := hw.symm
      subst hw
      refine hK _ _ ⟨hS, ?_⟩
      clear hK K
      refine actNorm (fun a' ha => ?_); (try simp [go_sem] at ha); subst ha
      refine wpAnyH_all (rs := [12]) (by decide +kernel) (by simp) ?_
      intro i0 hi0
      have hi1 := List.mem_singleton.1 hi0
      clear hi0
      subst hi1
      refine wpOp_goE rfl (by kernel_rfl) (fun K hK => ?_)
      go_simp
      refine (HK2.out _).mono ?_
      rintro e W1 ⟨rfl, hw⟩
      have hw := hw.symm
      subst hw
      refine hK _ _ ⟨hS, ?_⟩
      clear hK K
      refine actNorm (fun a' ha => ?_); (try simp [go_sem] at ha); subst ha
      refine takeD (i := 13) (d := (some 29)) (v := ?_) rfl rfl (by kernel_rfl) (by decide +kernel) (by decide +kernel) (fun _ _ _ h => by cases h.1) (Or.inl ⟨by first | kernel_rfl | rfl, ?_⟩) hS ?_
      rotate_left
      · intro w' hT; obtain ⟨s, rfl⟩ := hT; first | (go_simp; done) | (go_simp; with_reducible rfl)
      refine actNorm (fun a' ha => ?_); (try simp [go_sem] at ha); subst ha
      refine wpAnyH_all (rs := [15]) (by decide +kernel) (by simp) ?_
      intro i0 hi0
      have hi1 := List.mem_singleton.1 hi0
      clear hi0
      subst hi1
      refine wpOp_goE rfl (by kernel_rfl) (fun K hK => ?_)
      obtain ⟨s0, hs0⟩ := hS
      have hs1 : Below w4.heap.size w4 wa := by rw [hs0]; exact s0.h
      have hO := Only.setRow gF wa (fmA ⟨⟨cus.toArray⟩, dy, ⟨cur.toArray⟩, [], none, 0⟩)
      have hs2 := hs1.trans (hO.below hgF)
      have hb2 : Blk (wa.setRow gF (fmA ⟨⟨cus.toArray⟩, dy, ⟨cur.toArray⟩, [], none, 0⟩)) gF 24 (fmA ⟨⟨cus.toArray⟩, dy, ⟨cur.toArray⟩, [], none, 0⟩) := blk_setRow bF
      refine wp_store_row 24 (.tmp 5) (.tmp 29) rfl gF (fmA ⟨⟨cus.toArray⟩, dy, ⟨cur.toArray⟩, [], none, 0⟩) rfl rfl 24 _ bF infoFm rfl (fm_all _) (hK _ _ ⟨⟨⟨_, hs2⟩, rfl⟩, ?_⟩)
      refine wpAnyH_done (by decide +kernel) ?_ _
      exact ⟨rfl, gF, _, _, _, _, _, _, _, _, _, _, _, _, _, _, rfl, hgF, hb2, hs2⟩
  case goon =>
    rintro e a W5 ⟨rfl, gF, y16, y17, y18, y19, y20, y21, y22, y23, y24, y25, y26, y27, y28, y29, rfl, hgF, hbF, hb5⟩
    clear q0 q1 q2 g0 g1 g2 g1i g2i HC0 HC1 HC2 HK0 HK1 HK2 HKN
    obtain ⟨i0, hi, hz0, hz1, hz2⟩ := info_parts infoLn5
    have kn1 : wrap64 ((n : Int) - 1) = (n : Int) - 1 := by unfold wrap64; omega
    go_wp2_with fail
    go_loopw [6, 7] (fun iv _ wr => ∃ (i : Nat) (v : Value) (xs : List Pl.Ln), 3 ≤ i ∧ i + 1 ≤ n ∧ iv = .int .i64 i ∧ Hid (Pl.rdM ((L.drop 3).take (i - 3)) = some xs ∧ xs.length = i - 3 ∧ ∀ y, y ∈ xs → y.md.size ≤ 3000) ∧ Hid (Blk wr gF 24 #[.string ⟨cus.toArray⟩, .int .i64 dy, .string ⟨cur.toArray⟩, v]) ∧ Hid (wr.ownsRow w4.heap.size 45 4 v xs.length (flt lnL xs)) ∧ Hid (Below w4.heap.size w4 wr)) (fun iv _ _ => n - (intOf iv).toNat)
    case atStart => exact ⟨3, _, [], by omega, by omega, rfl, Lib.hid ⟨rfl, rfl, fun y hy => (by cases hy)⟩, Lib.hid hbF, Lib.hid (World.ownsRow_nil _ _ _ _), Lib.hid hb5⟩
    case round =>
      clear hbF hb5
      obtain ⟨i, v, xs, hi3, hin, rfl, HX, HF, HO, HW⟩ := hrel
      obtain ⟨wo, rfl⟩ : ∃ wo, wo = wr := ⟨_, rfl⟩
      have HI3 := Lib.hid hi3
      by_cases hlt : i + 1 < n
      · have hltI : (i : Int) < (n : Int) - 1 := by omega
        have hltN : i < n := by omega
        have HLT := Lib.hid hlt
        have hci := (HW.out.cell (p := ⟨gL, i, none⟩) hgl).trans (HCE.out i (by rw [HN.out]; omega))
        have HSP := Lib.hid (rsplit_any ⟨(L[i]'(by rw [HN.out]; omega)).toArray⟩ 32 (by rw [bsz]; have := HLE.out _ (List.getElem_mem (by rw [HN.out]; omega : i < L.length)); omega))
        have hy1 : Pl.byt (⟨(L[i]'(by rw [HN.out]; omega)).toArray⟩ : ByteArray) = L[i]'(by rw [HN.out]; omega) := by unfold Pl.byt; simp
        rw [hy1, t32] at HSP
        have HM2 : Hid (∀ x, x ∈ Pl.spl 32 [] (L[i]'(by rw [HN.out]; omega)) → x.length ≤ 3000) := Lib.hid (fun x hx => by
          have h1 := Pl.spl_le 32 _ _ _ hx
          have h2 := HLE.out _ (List.getElem_mem (by rw [HN.out]; omega : i < L.length))
          simp at h1; omega)
        have HBAD : Hid ((Pl.spl 32 [] (L[i]'(by rw [HN.out]; omega))).length ≠ 4 → ∀ f' : Pl.Fm, Pl.Vf f' → Pl.txt f' ≠ Pl.byt s) := Lib.hid (fun hne f' hf' e' => by
          have h1 := Pl.rdD_bad (L := L) (k := i - 3) (by rw [HN.out]; omega) (by rw [HN.out]; omega) (by
            have : L[i - 3 + 3]'(by rw [HN.out]; omega) = L[i]'(by rw [HN.out]; omega) := by congr 1; omega
            rw [this]; exact hne)
          have := Pl.rdD_is (t := Pl.byt s) (o := none) (by rw [HL.out]; exact h1) f' hf' e'
          cases this)
        have HSN : Hid (∀ a b c d, Pl.spl 32 [] (L[i]'(by rw [HN.out]; omega)) = [a, b, c, d] → Pl.rdM ((L.drop 3).take (i + 1 - 3)) = some (xs ++ [⟨⟨a.toArray⟩, Pl.nmb b, Pl.nmb c, Pl.nmb d⟩])) := Lib.hid (fun a b c d h => by
          have h1 := Pl.rdM_snoc h HX.out.1
          have h2 : (L.drop 3).take (i + 1 - 3) = (L.drop 3).take (i - 3) ++ [L[i]'(by rw [HN.out]; omega)] := by
            rw [show i + 1 - 3 = (i - 3) + 1 by omega, List.take_succ_eq_append_getElem (by rw [List.length_drop, HN.out]; omega), List.getElem_drop]
            congr 2
            congr 1
            omega
          rw [h2]; exact h1)
        clear hy1
        generalize (L[i]'(by rw [HN.out]; omega)) = Li at *
        obtain ⟨Ws, hWs⟩ : ∃ Ws, Pl.spl 32 [] Li = Ws := ⟨_, rfl⟩
        have hc4 := Pl.spl_count 32 Li []
        rw [hWs] at HSP HM2 HBAD HSN hc4
        have hm1 : 1 ≤ Ws.length := hc4.1
        clear hWs hlt hc4
        obtain ⟨m, hm⟩ : ∃ m, Ws.length = m := ⟨_, rfl⟩
        rw [hm] at HSP HBAD hm1
        have HMN := Lib.hid hm
        clear hm
        go_wp2_with fail
        refine (HSP.out wo).mono ?_
        rintro e w5 ⟨vw, rfl, hownW, hb5⟩
        have HB5 := Lib.hid hb5
        have HF5 := Lib.hid (HF.out.below hb5 HF.out.lt)
        have HO5 := Lib.hid (own_keep HO.out hb5)
        have HW5 := Lib.hid (HW.out.trans (hb5.mono HW.out.size))
        have HZ5 := Lib.hid (HBZ4.out.below HW5.out hlZ4)
        obtain ⟨gw, cw, curw, rfl, hgwB, hcapw, hmaxw, hbw, hcw⟩ := sts_open hownW HMN.out.symm (by omega)
        have HBW := Lib.hid hbw
        clear hb5 hownW hgwB hbw hci HF HO HW
        by_cases hm4 : m = 4
        · subst hm4
          have hneq : ((4 : Int) != 4) = false := rfl
          match Ws, HMN with
          | [wa0, wb, wc, wd], HMN =>
          have e0 : w5.cell? ⟨gw, 0, none⟩ = some (.string ⟨wa0.toArray⟩) := hcw 0 (by simp)
          have e1 : w5.cell? ⟨gw, 1, none⟩ = some (.string ⟨wb.toArray⟩) := hcw 1 (by simp)
          have e2 : w5.cell? ⟨gw, 2, none⟩ = some (.string ⟨wc.toArray⟩) := hcw 2 (by simp)
          have e3 : w5.cell? ⟨gw, 3, none⟩ = some (.string ⟨wd.toArray⟩) := hcw 3 (by simp)
          have HSX := Lib.hid (HSN.out wa0 wb wc wd rfl)
          have HNb := Lib.hid (rnumber_any ⟨wb.toArray⟩ (by rw [bsz]; have := HM2.out wb (by simp); omega))
          have HNc := Lib.hid (rnumber_any ⟨wc.toArray⟩ (by rw [bsz]; have := HM2.out wc (by simp); omega))
          have HNd := Lib.hid (rnumber_any ⟨wd.toArray⟩ (by rw [bsz]; have := HM2.out wd (by simp); omega))
          have hyb : Pl.byt (⟨wb.toArray⟩ : ByteArray) = wb := by unfold Pl.byt; simp
          have hyc : Pl.byt (⟨wc.toArray⟩ : ByteArray) = wc := by unfold Pl.byt; simp
          have hyd : Pl.byt (⟨wd.toArray⟩ : ByteArray) = wd := by unfold Pl.byt; simp
          rw [hyb] at HNb
          rw [hyc] at HNc
          rw [hyd] at HNd
          have HMA : Hid ((⟨wa0.toArray⟩ : ByteArray).size ≤ 3000) := Lib.hid (by rw [bsz]; exact HM2.out wa0 (by simp))
          clear hcw hyb hyc hyd HSN HM2 HBAD HMN
          generalize Pl.nmb wb = nb at *
          generalize Pl.nmb wc = nc at *
          generalize Pl.nmb wd = nd at *
          have hxl := HX.out.2.1
          obtain ⟨q, hq⟩ : ∃ q, xs.length = q := ⟨_, rfl⟩
          rw [hq] at HO5 hxl
          have HQ := Lib.hid hq
          have hq3 : q ≤ 3001 := by omega
          have HQI := Lib.hid hxl
          clear hq hxl
          have hsl : ∃ Av cv, v = .slice Av q cv := by
            rcases HO5.out with ⟨_, ⟨h, h0⟩ | ⟨g, cap, cur, h, _⟩⟩
            · exact ⟨none, 0, by rw [h, h0]⟩
            · exact ⟨_, _, h⟩
          obtain ⟨Av, cv, rfl⟩ := hsl
          go_wp2_with fail
          refine Code.wp_mono (Q := fun e' a' w' => e' = .normal ∧ ∃ (A9 : Option Addr) (c9 : Nat) (y30 y31 y32 y33 y34 y35 y36 y37 y38 y39 y40 y41 y42 y43 y44 y45 y46 y47 y48 y49 y50 y51 y52 y53 y54 y55 y56 y57 y58 y59 y60 y61 y62 y63 y64 y65 y66 : Value), a' = { tmps := #[.string s, undef, .pointer (some ⟨w.heap.size, 0, none⟩), u3, .slice (some ⟨gL, 0, none⟩) n cL, .pointer (some ⟨gF, 0, none⟩), .int .i64 i, .slice (some ⟨gw, 0, none⟩) 4 cw, undef, undef, .string s, .slice (some ⟨gL, 0, none⟩) n cL, .slice (some ⟨gL, 0, none⟩) n cL, .int .i64 n, .bool false, undef, y16, y17, y18, y19, y20, y21, y22, y23, y24, y25, y26, y27, y28, y29, y30, y31, y32, y33, y34, y35, y36, y37, y38, y39, y40, y41, y42, y43, y44, y45, y46, y47, y48, y49, y50, y51, y52, y53, y54, y55, y56, y57, y58, y59, y60, y61, y62, y63, y64, y65, y66, undef, undef, undef, undef, undef, undef, undef, undef, undef, undef, undef, undef, undef, undef], defers := [] } ∧ Blk w' gF 24 #[.string ⟨cus.toArray⟩, .int .i64 dy, .string ⟨cur.toArray⟩, .slice A9 (q + 1) c9] ∧ w'.ownsRow w4.heap.size 45 4 (.slice A9 (q + 1) c9) (q + 1) (flt lnL xs ++ lnL ⟨⟨wa0.toArray⟩, nb, nc, nd⟩) ∧ Below w4.heap.size w4 w') ?goon2 ?region2
          case goon2 =>
            rintro e a w10 ⟨rfl, A9, c9, y30, y31, y32, y33, y34, y35, y36, y37, y38, y39, y40, y41, y42, y43, y44, y45, y46, y47, y48, y49, y50, y51, y52, y53, y54, y55, y56, y57, y58, y59, y60, y61, y62, y63, y64, y65, y66, rfl, bF10, own10, hW10⟩
            have HF10 := Lib.hid bF10
            have HO10 := Lib.hid own10
            have HW10 := Lib.hid hW10
            clear bF10 own10 hW10 e0 e1 e2 e3
            go_wp2_with fail
            go_roundw
            case rel => exact ⟨i + 1, _, xs ++ [⟨⟨wa0.toArray⟩, nb, nc, nd⟩], by omega, HLT.out, by have := HLT.out; go_num, Lib.hid ⟨HSX.out, by rw [List.length_append, HQ.out, HQI.out]; have := HI3.out; simp; omega, fun y hy => by
              rcases List.mem_append.1 hy with h | h
              · exact HX.out.2.2 y h
              · simp at h; subst h; exact HMA.out⟩, HF10, Lib.hid (by rw [List.length_append, HQ.out, flt_append, flt_one]; exact HO10.out), HW10⟩
            case measure => have := HLT.out; simp [intOf]; omega
          case region2 =>
            refine wp_region_held (S := fun V9 => V9.heap[gw]? = w5.heap[gw]?) (by kernel_rfl) ?_
            change wpAnyH _ _ _ _ _ _ _ _ (World.drew _)
            have hS : (World.drew w5).heap[gw]? = w5.heap[gw]? := rfl
            have HFd : Hid (Blk (World.drew w5) gF 24 #[.string ⟨cus.toArray⟩, .int .i64 dy, .string ⟨cur.toArray⟩, .slice Av q cv]) := Lib.hid HF5.out
            have HOd : Hid ((World.drew w5).ownsRow w4.heap.size 45 4 (.slice Av q cv) q (flt lnL xs)) := Lib.hid HO5.out
            have HBd : Hid (Blk (World.drew w5) gw 9 curw) := Lib.hid HBW.out
            have HWd : Hid (Below w4.heap.size w4 (World.drew w5)) := Lib.hid HW5.out.drew
            have c3 : (World.drew w5).cell? ⟨gF, 3, none⟩ = some (.slice Av q cv) := HF5.out.cell 3
            generalize World.drew w5 = w5d at *
            refine takeD (i := 0) (d := (some 46)) (v := ?_) rfl rfl (by kernel_rfl) (by decide +kernel) (by decide +kernel) (fun _ _ _ h => by cases h.1) (Or.inl ⟨by first | kernel_rfl | rfl, ?_⟩) hS ?_
            rotate_left
            · intro w' hT; have p0 := (cell_same (p := ⟨gw, 0, none⟩) hT).trans e0; have p1 := (cell_same (p := ⟨gw, 1, none⟩) hT).trans e1; have p2 := (cell_same (p := ⟨gw, 2, none⟩) hT).trans e2; have p3 := (cell_same (p := ⟨gw, 3, none⟩) hT).trans e3; first | (go_simp; done) | (go_simp; with_reducible rfl)
            refine takeD (i := 2) (d := (some 48)) (v := ?_) rfl rfl (by kernel_rfl) (by decide +kernel) (by decide +kernel) (fun _ _ _ h => by cases h.1) (Or.inl ⟨by first | kernel_rfl | rfl, ?_⟩) hS ?_
            rotate_left
            · intro w' hT; have p0 := (cell_same (p := ⟨gw, 0, none⟩) hT).trans e0; have p1 := (cell_same (p := ⟨gw, 1, none⟩) hT).trans e1; have p2 := (cell_same (p := ⟨gw, 2, none⟩) hT).trans e2; have p3 := (cell_same (p := ⟨gw, 3, none⟩) hT).trans e3; first | (go_simp; done) | (go_simp; with_reducible rfl)
            refine takeD (i := 3) (d := (some 49)) (v := ?_) rfl rfl (by kernel_rfl) (by decide +kernel) (by decide +kernel) (fun _ _ _ h => by cases h.1) (Or.inl ⟨by first | kernel_rfl | rfl, ?_⟩) hS ?_
            rotate_left
            · intro w' hT; have p0 := (cell_same (p := ⟨gw, 0, none⟩) hT).trans e0; have p1 := (cell_same (p := ⟨gw, 1, none⟩) hT).trans e1; have p2 := (cell_same (p := ⟨gw, 2, none⟩) hT).trans e2; have p3 := (cell_same (p := ⟨gw, 3, none⟩) hT).trans e3; first | (go_simp; done) | (go_simp; with_reducible rfl)
            refine takeD (i := 4) (d := (some 50)) (v := ?_) rfl rfl (by kernel_rfl) (by decide +kernel) (by decide +kernel) (fun _ _ _ h => by cases h.1) (Or.inl ⟨by first | kernel_rfl | rfl, ?_⟩) hS ?_
            rotate_left
            · intro w' hT; have p0 := (cell_same (p := ⟨gw, 0, none⟩) hT).trans e0; have p1 := (cell_same (p := ⟨gw, 1, none⟩) hT).trans e1; have p2 := (cell_same (p := ⟨gw, 2, none⟩) hT).trans e2; have p3 := (cell_same (p := ⟨gw, 3, none⟩) hT).trans e3; first | (go_simp; done) | (go_simp; with_reducible rfl)
            refine takeD (i := 5) (d := (some 51)) (v := ?_) rfl rfl (by kernel_rfl) (by decide +kernel) (by decide +kernel) (fun _ _ _ h => by cases h.1) (Or.inl ⟨by first | kernel_rfl | rfl, ?_⟩) hS ?_
            rotate_left
            · intro w' hT; have p0 := (cell_same (p := ⟨gw, 0, none⟩) hT).trans e0; have p1 := (cell_same (p := ⟨gw, 1, none⟩) hT).trans e1; have p2 := (cell_same (p := ⟨gw, 2, none⟩) hT).trans e2; have p3 := (cell_same (p := ⟨gw, 3, none⟩) hT).trans e3; first | (go_simp; done) | (go_simp; with_reducible rfl)
            refine takeD (i := 6) (d := (some 52)) (v := ?_) rfl rfl (by kernel_rfl) (by decide +kernel) (by decide +kernel) (fun _ _ _ h => by cases h.1) (Or.inl ⟨by first | kernel_rfl | rfl, ?_⟩) hS ?_
            rotate_left
            · intro w' hT; have p0 := (cell_same (p := ⟨gw, 0, none⟩) hT).trans e0; have p1 := (cell_same (p := ⟨gw, 1, none⟩) hT).trans e1; have p2 := (cell_same (p := ⟨gw, 2, none⟩) hT).trans e2; have p3 := (cell_same (p := ⟨gw, 3, none⟩) hT).trans e3; first | (go_simp; done) | (go_simp; with_reducible rfl)
            refine takeD (i := 7) (d := (some 53)) (v := ?_) rfl rfl (by kernel_rfl) (by decide +kernel) (by decide +kernel) (fun _ _ _ h => by cases h.1) (Or.inl ⟨by first | kernel_rfl | rfl, ?_⟩) hS ?_
            rotate_left
            · intro w' hT; have p0 := (cell_same (p := ⟨gw, 0, none⟩) hT).trans e0; have p1 := (cell_same (p := ⟨gw, 1, none⟩) hT).trans e1; have p2 := (cell_same (p := ⟨gw, 2, none⟩) hT).trans e2; have p3 := (cell_same (p := ⟨gw, 3, none⟩) hT).trans e3; first | (go_simp; done) | (go_simp; with_reducible rfl)
            refine takeD (i := 9) (d := (some 55)) (v := ?_) rfl rfl (by kernel_rfl) (by decide +kernel) (by decide +kernel) (fun _ _ _ h => by cases h.1) (Or.inl ⟨by first | kernel_rfl | rfl, ?_⟩) hS ?_
            rotate_left
            · intro w' hT; have p0 := (cell_same (p := ⟨gw, 0, none⟩) hT).trans e0; have p1 := (cell_same (p := ⟨gw, 1, none⟩) hT).trans e1; have p2 := (cell_same (p := ⟨gw, 2, none⟩) hT).trans e2; have p3 := (cell_same (p := ⟨gw, 3, none⟩) hT).trans e3; first | (go_simp; done) | (go_simp; with_reducible rfl)
            refine takeD (i := 10) (d := (some 56)) (v := ?_) rfl rfl (by kernel_rfl) (by decide +kernel) (by decide +kernel) (fun _ _ _ h => by cases h.1) (Or.inl ⟨by first | kernel_rfl | rfl, ?_⟩) hS ?_
            rotate_left
            · intro w' hT; have p0 := (cell_same (p := ⟨gw, 0, none⟩) hT).trans e0; have p1 := (cell_same (p := ⟨gw, 1, none⟩) hT).trans e1; have p2 := (cell_same (p := ⟨gw, 2, none⟩) hT).trans e2; have p3 := (cell_same (p := ⟨gw, 3, none⟩) hT).trans e3; first | (go_simp; done) | (go_simp; with_reducible rfl)
            refine takeD (i := 11) (d := (some 57)) (v := ?_) rfl rfl (by kernel_rfl) (by decide +kernel) (by decide +kernel) (fun _ _ _ h => by cases h.1) (Or.inl ⟨by first | kernel_rfl | rfl, ?_⟩) hS ?_
            rotate_left
            · intro w' hT; have p0 := (cell_same (p := ⟨gw, 0, none⟩) hT).trans e0; have p1 := (cell_same (p := ⟨gw, 1, none⟩) hT).trans e1; have p2 := (cell_same (p := ⟨gw, 2, none⟩) hT).trans e2; have p3 := (cell_same (p := ⟨gw, 3, none⟩) hT).trans e3; first | (go_simp; done) | (go_simp; with_reducible rfl)
            refine takeD (i := 13) (d := (some 59)) (v := ?_) rfl rfl (by kernel_rfl) (by decide +kernel) (by decide +kernel) (fun _ _ _ h => by cases h.1) (Or.inl ⟨by first | kernel_rfl | rfl, ?_⟩) hS ?_
            rotate_left
            · intro w' hT; have p0 := (cell_same (p := ⟨gw, 0, none⟩) hT).trans e0; have p1 := (cell_same (p := ⟨gw, 1, none⟩) hT).trans e1; have p2 := (cell_same (p := ⟨gw, 2, none⟩) hT).trans e2; have p3 := (cell_same (p := ⟨gw, 3, none⟩) hT).trans e3; first | (go_simp; done) | (go_simp; with_reducible rfl)
            refine takeD (i := 14) (d := (some 60)) (v := ?_) rfl rfl (by kernel_rfl) (by decide +kernel) (by decide +kernel) (fun _ _ _ h => by cases h.1) (Or.inl ⟨by first | kernel_rfl | rfl, ?_⟩) hS ?_
            rotate_left
            · intro w' hT; have p0 := (cell_same (p := ⟨gw, 0, none⟩) hT).trans e0; have p1 := (cell_same (p := ⟨gw, 1, none⟩) hT).trans e1; have p2 := (cell_same (p := ⟨gw, 2, none⟩) hT).trans e2; have p3 := (cell_same (p := ⟨gw, 3, none⟩) hT).trans e3; first | (go_simp; done) | (go_simp; with_reducible rfl)
            refine takeD (i := 15) (d := (some 61)) (v := ?_) rfl rfl (by kernel_rfl) (by decide +kernel) (by decide +kernel) (fun _ _ _ h => by cases h.1) (Or.inl ⟨by first | kernel_rfl | rfl, ?_⟩) hS ?_
            rotate_left
            · intro w' hT; have p0 := (cell_same (p := ⟨gw, 0, none⟩) hT).trans e0; have p1 := (cell_same (p := ⟨gw, 1, none⟩) hT).trans e1; have p2 := (cell_same (p := ⟨gw, 2, none⟩) hT).trans e2; have p3 := (cell_same (p := ⟨gw, 3, none⟩) hT).trans e3; first | (go_simp; done) | (go_simp; with_reducible rfl)
            refine actNorm (fun a' ha => ?_); (try simp [go_sem] at ha); subst ha
            refine wpAnyH_all (rs := [1, 8]) (by decide +kernel) (by simp) ?_
            intro i0 hi0
            obtain rfl | rfl : i0 = 1 ∨ i0 = 8 := by simpa using hi0
            clear hi0
            · skip
              refine wpOp_goE rfl (by kernel_rfl) (fun K hK => ?_)
              go_simp
              refine hK _ _ ⟨hS, ?_⟩
              clear hK K
              refine actNorm (fun a' ha => ?_); (try simp [go_sem] at ha); subst ha
              refine wpAnyH_all (rs := [8]) (by decide +kernel) (by simp) ?_
              intro i0 hi0
              have hi1 := List.mem_singleton.1 hi0
              clear hi0
              subst hi1
              refine wpOp_goE rfl (by kernel_rfl) (fun K hK => ?_)
              go_simp
              refine (HNb.out _).mono ?_
              rintro e W1 ⟨rfl, hw⟩
              have hw := hw.symm
              subst hw
              refine hK _ _ ⟨hS, ?_⟩
              clear hK K
              refine actNorm (fun a' ha => ?_); (try simp [go_sem] at ha); subst ha
              refine wpAnyH_all (rs := [12]) (by decide +kernel) (by simp) ?_
              intro i0 hi0
              have hi1 := List.mem_singleton.1 hi0
              clear hi0
              subst hi1
              refine wpOp_goE rfl (by kernel_rfl) (fun K hK => ?_)
              go_simp
              refine (HNc.out _).mono ?_
              rintro e W1 ⟨rfl, hw⟩
              have hw := hw.symm
              subst hw
              refine hK _ _ ⟨hS, ?_⟩
              clear hK K
              refine actNorm (fun a' ha => ?_); (try simp [go_sem] at ha); subst ha
              refine wpAnyH_all (rs := [16]) (by decide +kernel) (by simp) ?_
              intro i0 hi0
              have hi1 := List.mem_singleton.1 hi0
              clear hi0
              subst hi1
              refine wpOp_goE rfl (by kernel_rfl) (fun K hK => ?_)
              go_simp
              refine (HNd.out _).mono ?_
              rintro e W1 ⟨rfl, hw⟩
              have hw := hw.symm
              subst hw
              refine hK _ _ ⟨hS, ?_⟩
              clear hK K
              refine actNorm (fun a' ha => ?_); (try simp [go_sem] at ha); subst ha
              refine takeD (i := 17) (d := (some 63)) (v := ?_) rfl rfl (by kernel_rfl) (by decide +kernel) (by decide +kernel) (fun _ _ _ h => by cases h.1) (Or.inl ⟨by first | kernel_rfl | rfl, ?_⟩) hS ?_
              rotate_left
              · intro w' hT; first | (go_simp; done) | (go_simp; with_reducible rfl)
              refine actNorm (fun a' ha => ?_); (try simp [go_sem] at ha); subst ha
              refine wpAnyH_all (rs := [18]) (by decide +kernel) (by simp) ?_
              intro i0 hi0
              have hi1 := List.mem_singleton.1 hi0
              clear hi0
              subst hi1
              refine wpOp_goE rfl (by kernel_rfl) (fun K hK => ?_)
              go_simp
              have hSA : (w5d.alloc (.cells #[.string ⟨wa0.toArray⟩, .int .i64 nb, .int .i64 nc, .int .i64 nd] 45)).heap[gw]? = w5.heap[gw]? := (HBd.out.alloc _).trans HBW.out.symm
              have HFa := Lib.hid (HFd.out.alloc (.cells #[.string ⟨wa0.toArray⟩, .int .i64 nb, .int .i64 nc, .int .i64 nd] 45))
              have hownA := HOd.out.alloc (.cells #[.string ⟨wa0.toArray⟩, .int .i64 nb, .int .i64 nc, .int .i64 nd] 45)
              have HBa := Lib.hid (HBd.out.alloc (.cells #[.string ⟨wa0.toArray⟩, .int .i64 nb, .int .i64 nc, .int .i64 nd] 45))
              have HWa := Lib.hid (HWd.out.alloc HWd.out.size (.cells #[.string ⟨wa0.toArray⟩, .int .i64 nb, .int .i64 nc, .int .i64 nd] 45))
              have c3 : (w5d.alloc (.cells #[.string ⟨wa0.toArray⟩, .int .i64 nb, .int .i64 nc, .int .i64 nd] 45)).cell? ⟨gF, 3, none⟩ = some (.slice Av q cv) := HFa.out.cell 3
              have hnew : ∀ j u, (lnL ⟨⟨wa0.toArray⟩, nb, nc, nd⟩)[j]? = some u → (w5d.alloc (.cells #[.string ⟨wa0.toArray⟩, .int .i64 nb, .int .i64 nc, .int .i64 nd] 45)).cell? ((⟨w5d.heap.size, 0, none⟩ : Addr).add j) = some u := new_cells' w5d 45 (lnL ⟨⟨wa0.toArray⟩, nb, nc, nd⟩) rfl
              have hgA : w4.heap.size ≤ (w5d.alloc (.cells #[.string ⟨wa0.toArray⟩, .int .i64 nb, .int .i64 nc, .int .i64 nd] 45)).heap.size := HWa.out.size
              clear hS
              refine hK _ _ ⟨hSA, ?_⟩
              clear hK K
              generalize w5d.alloc (.cells #[.string ⟨wa0.toArray⟩, .int .i64 nb, .int .i64 nc, .int .i64 nd] 45) = wA at *
              generalize w5d.heap.size = nA at *
              refine actNorm (fun a' ha => ?_); (try simp [go_sem] at ha); subst ha
              refine wpAnyH_all (rs := [19]) (by decide +kernel) (by simp) ?_
              intro i0 hi0
              have hi1 := List.mem_singleton.1 hi0
              clear hi0
              subst hi1
              refine wpOp_goE rfl (by kernel_rfl) (fun K hK => ?_)
              refine wp_append_own _ _ _ 22 rfl w4.heap.size 45 i0 _ 4 40 Tryz.underlying22 hi hz0 hz1 hz2 rfl (by decide) _ _ _ rfl hownA ⟨nA, 0, none⟩ 1 1 (lnL ⟨⟨wa0.toArray⟩, nb, nc, nd⟩) rfl rfl hnew (encLn.one _) (by unfold maxLen; omega) (by omega) hgA ?_
              intro v9 w9 own9 hg9 _
              have hsh : ∃ A c, v9 = .slice A (q + 1) c := by
                rcases own9 with ⟨_, ⟨h, h0⟩ | ⟨g', cap, cur, h, _⟩⟩
                · omega
                · exact ⟨_, _, h⟩
              obtain ⟨A9, c9, rfl⟩ := hsh
              have hb9 : Below w4.heap.size wA w9 := (Below.refl _ wA).grown hg9 hgA (fun s e => (hownA.lt s e).1)
              have bF9 := HFa.out.grownBy hg9 (own_ne_blk hownA HFa.out tNF)
              have bW9 := HBa.out.grownBy hg9 (own_ne_blk hownA HBa.out tNS)
              have hS9 : w9.heap[gw]? = w5.heap[gw]? := bW9.trans HBW.out.symm
              have hW9 := HWa.out.trans hb9
              refine hK _ _ ⟨hS9, ?_⟩
              clear hK K
              clear hSA hnew hg9 hb9
              have z9 := bF9.frozen 3
              have k9 := bF9.cell 3
              refine actNorm (fun a' ha => ?_); (try simp [go_sem] at ha); subst ha
              refine wpAnyH_all (rs := [20]) (by decide +kernel) (by simp) ?_
              intro i0 hi0
              have hi1 := List.mem_singleton.1 hi0
              clear hi0
              subst hi1
              refine wpOp_goE rfl (by kernel_rfl) (fun K hK => ?_)
              go_simp
              refine hK _ _ ⟨hS9, ?_⟩
              clear hK K
              refine actNorm (fun a' ha => ?_); (try simp [go_sem] at ha); subst ha
              refine wpAnyH_all (rs := [21]) (by decide +kernel) (by simp) ?_
              intro i0 hi0
              have hi1 := List.mem_singleton.1 hi0
              clear hi0
              subst hi1
              refine wpOp_goE rfl (by kernel_rfl) (fun K hK => ?_)
              go_simp
              have hneF : gF ≠ gw := fun e => by
                have h1 := bF9
                rw [e] at h1
                exact blk_ne h1 bW9 (by decide)
              have bF10 := bF9.set_ 3 (.slice A9 (q + 1) c9)
              have hS10 : (w9.setCell ⟨gF, 3, none⟩ (.slice A9 (q + 1) c9)).heap[gw]? = w5.heap[gw]? := (bW9.far (p := ⟨gF, 3, none⟩) (fun e => hneF e.symm) _).trans HBW.out.symm
              have own10 := ownsRow_setCell_other own9 (a := ⟨gF, 3, none⟩) (own_ne_blk own9 bF9 tNF) (.slice A9 (q + 1) c9)
              have hW10 := hW9.trans ((Only.setCell gF w9 3 (.slice A9 (q + 1) c9)).below hgF)
              refine hK _ _ ⟨hS10, ?_⟩
              clear hK K
              refine wpAnyH_done (by decide +kernel) ?_ _
              exact ⟨rfl, A9, c9, _, _, _, _, _, _, _, _, _, _, _, _, _, _, _, _, _, _, _, _, _, _, _, _, _, _, _, _, _, _, _, _, _, _, _, _, _, rfl, bF10, own10, hW10⟩
            · skip
              refine wpOp_goE rfl (by kernel_rfl) (fun K hK => ?_)
              go_simp
              refine (HNb.out _).mono ?_
              rintro e W1 ⟨rfl, hw⟩
              have hw := hw.symm
              subst hw
              refine hK _ _ ⟨hS, ?_⟩
              clear hK K
              refine actNorm (fun a' ha => ?_); (try simp [go_sem] at ha); subst ha
              refine wpAnyH_all (rs := [1, 12]) (by decide +kernel) (by simp) ?_
              intro i0 hi0
              obtain rfl | rfl : i0 = 1 ∨ i0 = 12 := by simpa using hi0
              clear hi0
              · skip
                refine wpOp_goE rfl (by kernel_rfl) (fun K hK => ?_)
                go_simp
                refine hK _ _ ⟨hS, ?_⟩
                clear hK K
                refine actNorm (fun a' ha => ?_); (try simp [go_sem] at ha); subst ha
                refine wpAnyH_all (rs := [12]) (by decide +kernel) (by simp) ?_
                intro i0 hi0
                have hi1 := List.mem_singleton.1 hi0
                clear hi0
                subst hi1
                refine wpOp_goE rfl (by kernel_rfl) (fun K hK => ?_)
                go_simp
                refine (HNc.out _).mono ?_
                rintro e W1 ⟨rfl, hw⟩
                have hw := hw.symm
                subst hw
                refine hK _ _ ⟨hS, ?_⟩
                clear hK K
                refine actNorm (fun a' ha => ?_); (try simp [go_sem] at ha); subst ha
                refine wpAnyH_all (rs := [16]) (by decide +kernel) (by simp) ?_
                intro i0 hi0
                have hi1 := List.mem_singleton.1 hi0
                clear hi0
                subst hi1
                refine wpOp_goE rfl (by kernel_rfl) (fun K hK => ?_)
                go_simp
                refine (HNd.out _).mono ?_
                rintro e W1 ⟨rfl, hw⟩
                have hw := hw.symm
                subst hw
                refine hK _ _ ⟨hS, ?_⟩
                clear hK K
                refine actNorm (fun a' ha => ?_); (try simp [go_sem] at ha); subst ha
                refine takeD (i := 17) (d := (some 63)) (v := ?_) rfl rfl (by kernel_rfl) (by decide +kernel) (by decide +kernel) (fun _ _ _ h => by cases h.1) (Or.inl ⟨by first | kernel_rfl | rfl, ?_⟩) hS ?_
                rotate_left
                · intro w' hT; first | (go_simp; done) | (go_simp; with_reducible rfl)
                refine actNorm (fun a' ha => ?_); (try simp [go_sem] at ha); subst ha
                refine wpAnyH_all (rs := [18]) (by decide +kernel) (by simp) ?_
                intro i0 hi0
                have hi1 := List.mem_singleton.1 hi0
                clear hi0
                subst hi1
                refine wpOp_goE rfl (by kernel_rfl) (fun K hK => ?_)
                go_simp
                have hSA : (w5d.alloc (.cells #[.string ⟨wa0.toArray⟩, .int .i64 nb, .int .i64 nc, .int .i64 nd] 45)).heap[gw]? = w5.heap[gw]? := (HBd.out.alloc _).trans HBW.out.symm
                have HFa := Lib.hid (HFd.out.alloc (.cells #[.string ⟨wa0.toArray⟩, .int .i64 nb, .int .i64 nc, .int .i64 nd] 45))
                have hownA := HOd.out.alloc (.cells #[.string ⟨wa0.toArray⟩, .int .i64 nb, .int .i64 nc, .int .i64 nd] 45)
                have HBa := Lib.hid (HBd.out.alloc (.cells #[.string ⟨wa0.toArray⟩, .int .i64 nb, .int .i64 nc, .int .i64 nd] 45))
                have HWa := Lib.hid (HWd.out.alloc HWd.out.size (.cells #[.string ⟨wa0.toArray⟩, .int .i64 nb, .int .i64 nc, .int .i64 nd] 45))
                have c3 : (w5d.alloc (.cells #[.string ⟨wa0.toArray⟩, .int .i64 nb, .int .i64 nc, .int .i64 nd] 45)).cell? ⟨gF, 3, none⟩ = some (.slice Av q cv) := HFa.out.cell 3
                have hnew : ∀ j u, (lnL ⟨⟨wa0.toArray⟩, nb, nc, nd⟩)[j]? = some u → (w5d.alloc (.cells #[.string ⟨wa0.toArray⟩, .int .i64 nb, .int .i64 nc, .int .i64 nd] 45)).cell? ((⟨w5d.heap.size, 0, none⟩ : Addr).add j) = some u := new_cells' w5d 45 (lnL ⟨⟨wa0.toArray⟩, nb, nc, nd⟩) rfl
                have hgA : w4.heap.size ≤ (w5d.alloc (.cells #[.string ⟨wa0.toArray⟩, .int .i64 nb, .int .i64 nc, .int .i64 nd] 45)).heap.size := HWa.out.size
                clear hS
                refine hK _ _ ⟨hSA, ?_⟩
                clear hK K
                generalize w5d.alloc (.cells #[.string ⟨wa0.toArray⟩, .int .i64 nb, .int .i64 nc, .int .i64 nd] 45) = wA at *
                generalize w5d.heap.size = nA at *
                refine actNorm (fun a' ha => ?_); (try simp [go_sem] at ha); subst ha
                refine wpAnyH_all (rs := [19]) (by decide +kernel) (by simp) ?_
                intro i0 hi0
                have hi1 := List.mem_singleton.1 hi0
                clear hi0
                subst hi1
                refine wpOp_goE rfl (by kernel_rfl) (fun K hK => ?_)
                refine wp_append_own _ _ _ 22 rfl w4.heap.size 45 i0 _ 4 40 Tryz.underlying22 hi hz0 hz1 hz2 rfl (by decide) _ _ _ rfl hownA ⟨nA, 0, none⟩ 1 1 (lnL ⟨⟨wa0.toArray⟩, nb, nc, nd⟩) rfl rfl hnew (encLn.one _) (by unfold maxLen; omega) (by omega) hgA ?_
                intro v9 w9 own9 hg9 _
                have hsh : ∃ A c, v9 = .slice A (q + 1) c := by
                  rcases own9 with ⟨_, ⟨h, h0⟩ | ⟨g', cap, cur, h, _⟩⟩
                  · omega
                  · exact ⟨_, _, h⟩
                obtain ⟨A9, c9, rfl⟩ := hsh
                have hb9 : Below w4.heap.size wA w9 := (Below.refl _ wA).grown hg9 hgA (fun s e => (hownA.lt s e).1)
                have bF9 := HFa.out.grownBy hg9 (own_ne_blk hownA HFa.out tNF)
                have bW9 := HBa.out.grownBy hg9 (own_ne_blk hownA HBa.out tNS)
                have hS9 : w9.heap[gw]? = w5.heap[gw]? := bW9.trans HBW.out.symm
                have hW9 := HWa.out.trans hb9
                refine hK _ _ ⟨hS9, ?_⟩
                clear hK K
                clear hSA hnew hg9 hb9
                have z9 := bF9.frozen 3
                have k9 := bF9.cell 3
                refine actNorm (fun a' ha => ?_); (try simp [go_sem] at ha); subst ha
                refine wpAnyH_all (rs := [20]) (by decide +kernel) (by simp) ?_
                intro i0 hi0
                have hi1 := List.mem_singleton.1 hi0
                clear hi0
                subst hi1
                refine wpOp_goE rfl (by kernel_rfl) (fun K hK => ?_)
                go_simp
                refine hK _ _ ⟨hS9, ?_⟩
                clear hK K
                refine actNorm (fun a' ha => ?_); (try simp [go_sem] at ha); subst ha
                refine wpAnyH_all (rs := [21]) (by decide +kernel) (by simp) ?_
                intro i0 hi0
                have hi1 := List.mem_singleton.1 hi0
                clear hi0
                subst hi1
                refine wpOp_goE rfl (by kernel_rfl) (fun K hK => ?_)
                go_simp
                have hneF : gF ≠ gw := fun e => by
                  have h1 := bF9
                  rw [e] at h1
                  exact blk_ne h1 bW9 (by decide)
                have bF10 := bF9.set_ 3 (.slice A9 (q + 1) c9)
                have hS10 : (w9.setCell ⟨gF, 3, none⟩ (.slice A9 (q + 1) c9)).heap[gw]? = w5.heap[gw]? := (bW9.far (p := ⟨gF, 3, none⟩) (fun e => hneF e.symm) _).trans HBW.out.symm
                have own10 := ownsRow_setCell_other own9 (a := ⟨gF, 3, none⟩) (own_ne_blk own9 bF9 tNF) (.slice A9 (q + 1) c9)
                have hW10 := hW9.trans ((Only.setCell gF w9 3 (.slice A9 (q + 1) c9)).below hgF)
                refine hK _ _ ⟨hS10, ?_⟩
                clear hK K
                refine wpAnyH_done (by decide +kernel) ?_ _
                exact ⟨rfl, A9, c9, _, _, _, _, _, _, _, _, _, _, _, _, _, _, _, _, _, _, _, _, _, _, _, _, _, _, _, _, _, _, _, _, _, _, _, _, _, rfl, bF10, own10, hW10⟩
              · skip
                refine wpOp_goE rfl (by kernel_rfl) (fun K hK => ?_)
                go_simp
                refine (HNc.out _).mono ?_
                rintro e W1 ⟨rfl, hw⟩
                have hw := hw.symm
                subst hw
                refine hK _ _ ⟨hS, ?_⟩
                clear hK K
                refine actNorm (fun a' ha => ?_); (try simp [go_sem] at ha); subst ha
                refine wpAnyH_all (rs := [1, 16]) (by decide +kernel) (by simp) ?_
                intro i0 hi0
                obtain rfl | rfl : i0 = 1 ∨ i0 = 16 := by simpa using hi0
                clear hi0
                · skip
                  refine wpOp_goE rfl (by kernel_rfl) (fun K hK => ?_)
                  go_simp
                  refine hK _ _ ⟨hS, ?_⟩
                  clear hK K
                  refine actNorm (fun a' ha => ?_); (try simp [go_sem] at ha); subst ha
                  refine wpAnyH_all (rs := [16]) (by decide +kernel) (by simp) ?_
                  intro i0 hi0
                  have hi1 := List.mem_singleton.1 hi0
                  clear hi0
                  subst hi1
                  refine wpOp_goE rfl (by kernel_rfl) (fun K hK => ?_)
                  go_simp
                  refine (HNd.out _).mono ?_
                  rintro e W1 ⟨rfl, hw⟩
                  have hw := hw.symm
                  subst hw
                  refine hK _ _ ⟨hS, ?_⟩
                  clear hK K
                  refine actNorm (fun a' ha => ?_); (try simp [go_sem] at ha); subst ha
                  refine takeD (i := 17) (d := (some 63)) (v := ?_) rfl rfl (by kernel_rfl) (by decide +kernel) (by decide +kernel) (fun _ _ _ h => by cases h.1) (Or.inl ⟨by first | kernel_rfl | rfl, ?_⟩) hS ?_
                  rotate_left
                  · intro w' hT; first | (go_simp; done) | (go_simp; with_reducible rfl)
                  refine actNorm (fun a' ha => ?_); (try simp [go_sem] at ha); subst ha
                  refine wpAnyH_all (rs := [18]) (by decide +kernel) (by simp) ?_
                  intro i0 hi0
                  have hi1 := List.mem_singleton.1 hi0
                  clear hi0
                  subst hi1
                  refine wpOp_goE rfl (by kernel_rfl) (fun K hK => ?_)
                  go_simp
                  have hSA : (w5d.alloc (.cells #[.string ⟨wa0.toArray⟩, .int .i64 nb, .int .i64 nc, .int .i64 nd] 45)).heap[gw]? = w5.heap[gw]? := (HBd.out.alloc _).trans HBW.out.symm
                  have HFa := Lib.hid (HFd.out.alloc (.cells #[.string ⟨wa0.toArray⟩, .int .i64 nb, .int .i64 nc, .int .i64 nd] 45))
                  have hownA := HOd.out.alloc (.cells #[.string ⟨wa0.toArray⟩, .int .i64 nb, .int .i64 nc, .int .i64 nd] 45)
                  have HBa := Lib.hid (HBd.out.alloc (.cells #[.string ⟨wa0.toArray⟩, .int .i64 nb, .int .i64 nc, .int .i64 nd] 45))
                  have HWa := Lib.hid (HWd.out.alloc HWd.out.size (.cells #[.string ⟨wa0.toArray⟩, .int .i64 nb, .int .i64 nc, .int .i64 nd] 45))
                  have c3 : (w5d.alloc (.cells #[.string ⟨wa0.toArray⟩, .int .i64 nb, .int .i64 nc, .int .i64 nd] 45)).cell? ⟨gF, 3, none⟩ = some (.slice Av q cv) := HFa.out.cell 3
                  have hnew : ∀ j u, (lnL ⟨⟨wa0.toArray⟩, nb, nc, nd⟩)[j]? = some u → (w5d.alloc (.cells #[.string ⟨wa0.toArray⟩, .int .i64 nb, .int .i64 nc, .int .i64 nd] 45)).cell? ((⟨w5d.heap.size, 0, none⟩ : Addr).add j) = some u := new_cells' w5d 45 (lnL ⟨⟨wa0.toArray⟩, nb, nc, nd⟩) rfl
                  have hgA : w4.heap.size ≤ (w5d.alloc (.cells #[.string ⟨wa0.toArray⟩, .int .i64 nb, .int .i64 nc, .int .i64 nd] 45)).heap.size := HWa.out.size
                  clear hS
                  refine hK _ _ ⟨hSA, ?_⟩
                  clear hK K
                  generalize w5d.alloc (.cells #[.string ⟨wa0.toArray⟩, .int .i64 nb, .int .i64 nc, .int .i64 nd] 45) = wA at *
                  generalize w5d.heap.size = nA at *
                  refine actNorm (fun a' ha => ?_); (try simp [go_sem] at ha); subst ha
                  refine wpAnyH_all (rs := [19]) (by decide +kernel) (by simp) ?_
                  intro i0 hi0
                  have hi1 := List.mem_singleton.1 hi0
                  clear hi0
                  subst hi1
                  refine wpOp_goE rfl (by kernel_rfl) (fun K hK => ?_)
                  refine wp_append_own _ _ _ 22 rfl w4.heap.size 45 i0 _ 4 40 Tryz.underlying22 hi hz0 hz1 hz2 rfl (by decide) _ _ _ rfl hownA ⟨nA, 0, none⟩ 1 1 (lnL ⟨⟨wa0.toArray⟩, nb, nc, nd⟩) rfl rfl hnew (encLn.one _) (by unfold maxLen; omega) (by omega) hgA ?_
                  intro v9 w9 own9 hg9 _
                  have hsh : ∃ A c, v9 = .slice A (q + 1) c := by
                    rcases own9 with ⟨_, ⟨h, h0⟩ | ⟨g', cap, cur, h, _⟩⟩
                    · omega
                    · exact ⟨_, _, h⟩
                  obtain ⟨A9, c9, rfl⟩ := hsh
                  have hb9 : Below w4.heap.size wA w9 := (Below.refl _ wA).grown hg9 hgA (fun s e => (hownA.lt s e).1)
                  have bF9 := HFa.out.grownBy hg9 (own_ne_blk hownA HFa.out tNF)
                  have bW9 := HBa.out.grownBy hg9 (own_ne_blk hownA HBa.out tNS)
                  have hS9 : w9.heap[gw]? = w5.heap[gw]? := bW9.trans HBW.out.symm
                  have hW9 := HWa.out.trans hb9
                  refine hK _ _ ⟨hS9, ?_⟩
                  clear hK K
                  clear hSA hnew hg9 hb9
                  have z9 := bF9.frozen 3
                  have k9 := bF9.cell 3
                  refine actNorm (fun a' ha => ?_); (try simp [go_sem] at ha); subst ha
                  refine wpAnyH_all (rs := [20]) (by decide +kernel) (by simp) ?_
                  intro i0 hi0
                  have hi1 := List.mem_singleton.1 hi0
                  clear hi0
                  subst hi1
                  refine wpOp_goE rfl (by kernel_rfl) (fun K hK => ?_)
                  go_simp
                  refine hK _ _ ⟨hS9, ?_⟩
                  clear hK K
                  refine actNorm (fun a' ha => ?_); (try simp [go_sem] at ha); subst ha
                  refine wpAnyH_all (rs := [21]) (by decide +kernel) (by simp) ?_
                  intro i0 hi0
                  have hi1 := List.mem_singleton.1 hi0
                  clear hi0
                  subst hi1
                  refine wpOp_goE rfl (by kernel_rfl) (fun K hK => ?_)
                  go_simp
                  have hneF : gF ≠ gw := fun e => by
                    have h1 := bF9
                    rw [e] at h1
                    exact blk_ne h1 bW9 (by decide)
                  have bF10 := bF9.set_ 3 (.slice A9 (q + 1) c9)
                  have hS10 : (w9.setCell ⟨gF, 3, none⟩ (.slice A9 (q + 1) c9)).heap[gw]? = w5.heap[gw]? := (bW9.far (p := ⟨gF, 3, none⟩) (fun e => hneF e.symm) _).trans HBW.out.symm
                  have own10 := ownsRow_setCell_other own9 (a := ⟨gF, 3, none⟩) (own_ne_blk own9 bF9 tNF) (.slice A9 (q + 1) c9)
                  have hW10 := hW9.trans ((Only.setCell gF w9 3 (.slice A9 (q + 1) c9)).below hgF)
                  refine hK _ _ ⟨hS10, ?_⟩
                  clear hK K
                  refine wpAnyH_done (by decide +kernel) ?_ _
                  exact ⟨rfl, A9, c9, _, _, _, _, _, _, _, _, _, _, _, _, _, _, _, _, _, _, _, _, _, _, _, _, _, _, _, _, _, _, _, _, _, _, _, _, _, rfl, bF10, own10, hW10⟩
                · skip
                  refine wpOp_goE rfl (by kernel_rfl) (fun K hK => ?_)
                  go_simp
                  refine (HNd.out _).mono ?_
                  rintro e W1 ⟨rfl, hw⟩
                  have hw := hw.symm
                  subst hw
                  refine hK _ _ ⟨hS, ?_⟩
                  clear hK K
                  refine actNorm (fun a' ha => ?_); (try simp [go_sem] at ha); subst ha
                  refine takeD (i := 17) (d := (some 63)) (v := ?_) rfl rfl (by kernel_rfl) (by decide +kernel) (by decide +kernel) (fun _ _ _ h => by cases h.1) (Or.inl ⟨by first | kernel_rfl | rfl, ?_⟩) hS ?_
                  rotate_left
                  · intro w' hT; first | (go_simp; done) | (go_simp; with_reducible rfl)
                  refine actNorm (fun a' ha => ?_); (try simp [go_sem] at ha); subst ha
                  refine wpAnyH_all (rs := [1, 18]) (by decide +kernel) (by simp) ?_
                  intro i0 hi0
                  obtain rfl | rfl : i0 = 1 ∨ i0 = 18 := by simpa using hi0
                  clear hi0
                  · skip
                    refine wpOp_goE rfl (by kernel_rfl) (fun K hK => ?_)
                    go_simp
                    refine hK _ _ ⟨hS, ?_⟩
                    clear hK K
                    refine actNorm (fun a' ha => ?_); (try simp [go_sem] at ha); subst ha
                    refine wpAnyH_all (rs := [18]) (by decide +kernel) (by simp) ?_
                    intro i0 hi0
                    have hi1 := List.mem_singleton.1 hi0
                    clear hi0
                    subst hi1
                    refine wpOp_goE rfl (by kernel_rfl) (fun K hK => ?_)
                    go_simp
                    have hSA : (w5d.alloc (.cells #[.string ⟨wa0.toArray⟩, .int .i64 nb, .int .i64 nc, .int .i64 nd] 45)).heap[gw]? = w5.heap[gw]? := (HBd.out.alloc _).trans HBW.out.symm
                    have HFa := Lib.hid (HFd.out.alloc (.cells #[.string ⟨wa0.toArray⟩, .int .i64 nb, .int .i64 nc, .int .i64 nd] 45))
                    have hownA := HOd.out.alloc (.cells #[.string ⟨wa0.toArray⟩, .int .i64 nb, .int .i64 nc, .int .i64 nd] 45)
                    have HBa := Lib.hid (HBd.out.alloc (.cells #[.string ⟨wa0.toArray⟩, .int .i64 nb, .int .i64 nc, .int .i64 nd] 45))
                    have HWa := Lib.hid (HWd.out.alloc HWd.out.size (.cells #[.string ⟨wa0.toArray⟩, .int .i64 nb, .int .i64 nc, .int .i64 nd] 45))
                    have c3 : (w5d.alloc (.cells #[.string ⟨wa0.toArray⟩, .int .i64 nb, .int .i64 nc, .int .i64 nd] 45)).cell? ⟨gF, 3, none⟩ = some (.slice Av q cv) := HFa.out.cell 3
                    have hnew : ∀ j u, (lnL ⟨⟨wa0.toArray⟩, nb, nc, nd⟩)[j]? = some u → (w5d.alloc (.cells #[.string ⟨wa0.toArray⟩, .int .i64 nb, .int .i64 nc, .int .i64 nd] 45)).cell? ((⟨w5d.heap.size, 0, none⟩ : Addr).add j) = some u := new_cells' w5d 45 (lnL ⟨⟨wa0.toArray⟩, nb, nc, nd⟩) rfl
                    have hgA : w4.heap.size ≤ (w5d.alloc (.cells #[.string ⟨wa0.toArray⟩, .int .i64 nb, .int .i64 nc, .int .i64 nd] 45)).heap.size := HWa.out.size
                    clear hS
                    refine hK _ _ ⟨hSA, ?_⟩
                    clear hK K
                    generalize w5d.alloc (.cells #[.string ⟨wa0.toArray⟩, .int .i64 nb, .int .i64 nc, .int .i64 nd] 45) = wA at *
                    generalize w5d.heap.size = nA at *
                    refine actNorm (fun a' ha => ?_); (try simp [go_sem] at ha); subst ha
                    refine wpAnyH_all (rs := [19]) (by decide +kernel) (by simp) ?_
                    intro i0 hi0
                    have hi1 := List.mem_singleton.1 hi0
                    clear hi0
                    subst hi1
                    refine wpOp_goE rfl (by kernel_rfl) (fun K hK => ?_)
                    refine wp_append_own _ _ _ 22 rfl w4.heap.size 45 i0 _ 4 40 Tryz.underlying22 hi hz0 hz1 hz2 rfl (by decide) _ _ _ rfl hownA ⟨nA, 0, none⟩ 1 1 (lnL ⟨⟨wa0.toArray⟩, nb, nc, nd⟩) rfl rfl hnew (encLn.one _) (by unfold maxLen; omega) (by omega) hgA ?_
                    intro v9 w9 own9 hg9 _
                    have hsh : ∃ A c, v9 = .slice A (q + 1) c := by
                      rcases own9 with ⟨_, ⟨h, h0⟩ | ⟨g', cap, cur, h, _⟩⟩
                      · omega
                      · exact ⟨_, _, h⟩
                    obtain ⟨A9, c9, rfl⟩ := hsh
                    have hb9 : Below w4.heap.size wA w9 := (Below.refl _ wA).grown hg9 hgA (fun s e => (hownA.lt s e).1)
                    have bF9 := HFa.out.grownBy hg9 (own_ne_blk hownA HFa.out tNF)
                    have bW9 := HBa.out.grownBy hg9 (own_ne_blk hownA HBa.out tNS)
                    have hS9 : w9.heap[gw]? = w5.heap[gw]? := bW9.trans HBW.out.symm
                    have hW9 := HWa.out.trans hb9
                    refine hK _ _ ⟨hS9, ?_⟩
                    clear hK K
                    clear hSA hnew hg9 hb9
                    have z9 := bF9.frozen 3
                    have k9 := bF9.cell 3
                    refine actNorm (fun a' ha => ?_); (try simp [go_sem] at ha); subst ha
                    refine wpAnyH_all (rs := [20]) (by decide +kernel) (by simp) ?_
                    intro i0 hi0
                    have hi1 := List.mem_singleton.1 hi0
                    clear hi0
                    subst hi1
                    refine wpOp_goE rfl (by kernel_rfl) (fun K hK => ?_)
                    go_simp
                    refine hK _ _ ⟨hS9, ?_⟩
                    clear hK K
                    refine actNorm (fun a' ha => ?_); (try simp [go_sem] at ha); subst ha
                    refine wpAnyH_all (rs := [21]) (by decide +kernel) (by simp) ?_
                    intro i0 hi0
                    have hi1 := List.mem_singleton.1 hi0
                    clear hi0
                    subst hi1
                    refine wpOp_goE rfl (by kernel_rfl) (fun K hK => ?_)
                    go_simp
                    have hneF : gF ≠ gw := fun e => by
                      have h1 := bF9
                      rw [e] at h1
                      exact blk_ne h1 bW9 (by decide)
                    have bF10 := bF9.set_ 3 (.slice A9 (q + 1) c9)
                    have hS10 : (w9.setCell ⟨gF, 3, none⟩ (.slice A9 (q + 1) c9)).heap[gw]? = w5.heap[gw]? := (bW9.far (p := ⟨gF, 3, none⟩) (fun e => hneF e.symm) _).trans HBW.out.symm
                    have own10 := ownsRow_setCell_other own9 (a := ⟨gF, 3, none⟩) (own_ne_blk own9 bF9 tNF) (.slice A9 (q + 1) c9)
                    have hW10 := hW9.trans ((Only.setCell gF w9 3 (.slice A9 (q + 1) c9)).below hgF)
                    refine hK _ _ ⟨hS10, ?_⟩
                    clear hK K
                    refine wpAnyH_done (by decide +kernel) ?_ _
                    exact ⟨rfl, A9, c9, _, _, _, _, _, _, _, _, _, _, _, _, _, _, _, _, _, _, _, _, _, _, _, _, _, _, _, _, _, _, _, _, _, _, _, _, _, rfl, bF10, own10, hW10⟩
                  · skip
                    refine wpOp_goE rfl (by kernel_rfl) (fun K hK => ?_)
                    go_simp
                    have hSA : (w5d.alloc (.cells #[.string ⟨wa0.toArray⟩, .int .i64 nb, .int .i64 nc, .int .i64 nd] 45)).heap[gw]? = w5.heap[gw]? := (HBd.out.alloc _).trans HBW.out.symm
                    have HFa := Lib.hid (HFd.out.alloc (.cells #[.string ⟨wa0.toArray⟩, .int .i64 nb, .int .i64 nc, .int .i64 nd] 45))
                    have hownA := HOd.out.alloc (.cells #[.string ⟨wa0.toArray⟩, .int .i64 nb, .int .i64 nc, .int .i64 nd] 45)
                    have HBa := Lib.hid (HBd.out.alloc (.cells #[.string ⟨wa0.toArray⟩, .int .i64 nb, .int .i64 nc, .int .i64 nd] 45))
                    have HWa := Lib.hid (HWd.out.alloc HWd.out.size (.cells #[.string ⟨wa0.toArray⟩, .int .i64 nb, .int .i64 nc, .int .i64 nd] 45))
                    have c3 : (w5d.alloc (.cells #[.string ⟨wa0.toArray⟩, .int .i64 nb, .int .i64 nc, .int .i64 nd] 45)).cell? ⟨gF, 3, none⟩ = some (.slice Av q cv) := HFa.out.cell 3
                    have hnew : ∀ j u, (lnL ⟨⟨wa0.toArray⟩, nb, nc, nd⟩)[j]? = some u → (w5d.alloc (.cells #[.string ⟨wa0.toArray⟩, .int .i64 nb, .int .i64 nc, .int .i64 nd] 45)).cell? ((⟨w5d.heap.size, 0, none⟩ : Addr).add j) = some u := new_cells' w5d 45 (lnL ⟨⟨wa0.toArray⟩, nb, nc, nd⟩) rfl
                    have hgA : w4.heap.size ≤ (w5d.alloc (.cells #[.string ⟨wa0.toArray⟩, .int .i64 nb, .int .i64 nc, .int .i64 nd] 45)).heap.size := HWa.out.size
                    clear hS
                    refine hK _ _ ⟨hSA, ?_⟩
                    clear hK K
                    generalize w5d.alloc (.cells #[.string ⟨wa0.toArray⟩, .int .i64 nb, .int .i64 nc, .int .i64 nd] 45) = wA at *
                    generalize w5d.heap.size = nA at *
                    refine actNorm (fun a' ha => ?_); (try simp [go_sem] at ha); subst ha
                    refine wpAnyH_all (rs := [1]) (by decide +kernel) (by simp) ?_
                    intro i0 hi0
                    have hi1 := List.mem_singleton.1 hi0
                    clear hi0
                    subst hi1
                    refine wpOp_goE rfl (by kernel_rfl) (fun K hK => ?_)
                    go_simp
                    refine hK _ _ ⟨hSA, ?_⟩
                    clear hK K
                    refine actNorm (fun a' ha => ?_); (try simp [go_sem] at ha); subst ha
                    refine wpAnyH_all (rs := [19]) (by decide +kernel) (by simp) ?_
                    intro i0 hi0
                    have hi1 := List.mem_singleton.1 hi0
                    clear hi0
                    subst hi1
                    refine wpOp_goE rfl (by kernel_rfl) (fun K hK => ?_)
                    refine wp_append_own _ _ _ 22 rfl w4.heap.size 45 i0 _ 4 40 Tryz.underlying22 hi hz0 hz1 hz2 rfl (by decide) _ _ _ rfl hownA ⟨nA, 0, none⟩ 1 1 (lnL ⟨⟨wa0.toArray⟩, nb, nc, nd⟩) rfl rfl hnew (encLn.one _) (by unfold maxLen; omega) (by omega) hgA ?_
                    intro v9 w9 own9 hg9 _
                    have hsh : ∃ A c, v9 = .slice A (q + 1) c := by
                      rcases own9 with ⟨_, ⟨h, h0⟩ | ⟨g', cap, cur, h, _⟩⟩
                      · omega
                      · exact ⟨_, _, h⟩
                    obtain ⟨A9, c9, rfl⟩ := hsh
                    have hb9 : Below w4.heap.size wA w9 := (Below.refl _ wA).grown hg9 hgA (fun s e => (hownA.lt s e).1)
                    have bF9 := HFa.out.grownBy hg9 (own_ne_blk hownA HFa.out tNF)
                    have bW9 := HBa.out.grownBy hg9 (own_ne_blk hownA HBa.out tNS)
                    have hS9 : w9.heap[gw]? = w5.heap[gw]? := bW9.trans HBW.out.symm
                    have hW9 := HWa.out.trans hb9
                    refine hK _ _ ⟨hS9, ?_⟩
                    clear hK K
                    clear hSA hnew hg9 hb9
                    have z9 := bF9.frozen 3
                    have k9 := bF9.cell 3
                    refine actNorm (fun a' ha => ?_); (try simp [go_sem] at ha); subst ha
                    refine wpAnyH_all (rs := [20]) (by decide +kernel) (by simp) ?_
                    intro i0 hi0
                    have hi1 := List.mem_singleton.1 hi0
                    clear hi0
                    subst hi1
                    refine wpOp_goE rfl (by kernel_rfl) (fun K hK => ?_)
                    go_simp
                    refine hK _ _ ⟨hS9, ?_⟩
                    clear hK K
                    refine actNorm (fun a' ha => ?_); (try simp [go_sem] at ha); subst ha
                    refine wpAnyH_all (rs := [21]) (by decide +kernel) (by simp) ?_
                    intro i0 hi0
                    have hi1 := List.mem_singleton.1 hi0
                    clear hi0
                    subst hi1
                    refine wpOp_goE rfl (by kernel_rfl) (fun K hK => ?_)
                    go_simp
                    have hneF : gF ≠ gw := fun e => by
                      have h1 := bF9
                      rw [e] at h1
                      exact blk_ne h1 bW9 (by decide)
                    have bF10 := bF9.set_ 3 (.slice A9 (q + 1) c9)
                    have hS10 : (w9.setCell ⟨gF, 3, none⟩ (.slice A9 (q + 1) c9)).heap[gw]? = w5.heap[gw]? := (bW9.far (p := ⟨gF, 3, none⟩) (fun e => hneF e.symm) _).trans HBW.out.symm
                    have own10 := ownsRow_setCell_other own9 (a := ⟨gF, 3, none⟩) (own_ne_blk own9 bF9 tNF) (.slice A9 (q + 1) c9)
                    have hW10 := hW9.trans ((Only.setCell gF w9 3 (.slice A9 (q + 1) c9)).below hgF)
                    refine hK _ _ ⟨hS10, ?_⟩
                    clear hK K
                    refine wpAnyH_done (by decide +kernel) ?_ _
                    exact ⟨rfl, A9, c9, _, _, _, _, _, _, _, _, _, _, _, _, _, _, _, _, _, _, _, _, _, _, _, _, _, _, _, _, _, _, _, _, _, _, _, _, _, rfl, bF10, own10, hW10⟩
        · have hneq : ((m : Int) != 4) = true := by simp; omega
          have HNO := Lib.hid (HBAD.out hm4)
          clear hcw hm4
          go_wp2_with (refine st_fm (k := fm0) HZ5.out rfl rfl _ _ rfl rfl rfl ?_; intro w9 hM9 hO9)
          have hB9 := HB4.out.trans ((HW5.out.mono HB4.out.size).trans (hO9.below (B := w.heap.size) (Nat.le_refl _)))
          have HR := Lib.hid (PRes.no hB9 HNO.out)
          exact bodyPost_ret (v := .tuple #[.agg (fmA fm0), .int .i64 3]) (results_cell2 Tryz.results11 _ _ w.heap.size 24 (fmA fm0) (0, 0) _ rfl hM9 _ rfl Tryz.underlying24 rfl infoFm) rfl HR.out
      · obtain rfl : n = i + 1 := by omega
        have hltI : decide ((i : Int) < ((i + 1 : Nat) : Int) - 1) = false := by simp
        have hsl : ∃ Av cv, v = .slice Av xs.length cv ∧ Rows lnL 4 wo Av xs ∧ xs.length ≤ cv ∧ cv ≤ maxLen := by
          obtain ⟨A3, k3, h1, h2, h3, h4⟩ := rows_of_owns encLn HO.out
          exact ⟨A3, k3, h1, h2, h3, h4⟩
        obtain ⟨A3, k3, rfl, hr3, hk3, hm3⟩ := hsl
        obtain ⟨G, hG⟩ : ∃ G : Pl.Fm, G = ⟨⟨cus.toArray⟩, dy, ⟨cur.toArray⟩, xs, A3, k3⟩ := ⟨_, rfl⟩
        have hGI : FmIn wo G := by
          rw [hG]
          exact ⟨hr3, hk3, hm3, fun y hy => by have := HX.out.2.2 y hy; unfold maxLen; omega, by have := HSZ.out.1; rw [bsz]; unfold maxLen; omega, by have := HSZ.out.2; rw [bsz]; unfold maxLen; omega⟩
        have hFG : Blk wo gF 24 (fmA G) := by rw [hG]; exact HF.out
        have HRG : Hid (Pl.rdD L = some ⟨cus, dy, cur, xs⟩) := Lib.hid (HRD.out xs (by rw [show i + 1 - 4 = i - 3 by omega]; exact HX.out.1))
        have HNG : Hid (¬ (Pl.Vf G ∧ Pl.txt G = Pl.byt s) → ∀ f' : Pl.Fm, Pl.Vf f' → Pl.txt f' ≠ Pl.byt s) := Lib.hid (fun hn => Pl.rg_no (g := ⟨cus, dy, cur, xs⟩) (A := A3) (k := k3) (fun f' hf' e' => by
          have := Pl.rdD_is (t := Pl.byt s) (o := some ⟨cus, dy, cur, xs⟩) (by rw [HL.out]; exact HRG.out) f' hf' e'
          exact (Option.some.inj this).symm) (by
            have e2 : Pl.fmR ⟨cus, dy, cur, xs⟩ A3 k3 = G := hG.symm
            rw [e2]; exact hn))
        have HFM := Lib.hid (rFormat_any G wo hGI)
        have HGI := Lib.hid hGI
        have HFG := Lib.hid hFG
        have hlF := hFG.lt
        have q5 := hFG.range
        have HZo := Lib.hid (HBZ4.out.below HW.out hlZ4)
        have HBo := Lib.hid (HB4.out.trans (HW.out.mono HB4.out.size))
        obtain ⟨T, hT⟩ : ∃ T, Pl.foT G = T := ⟨_, rfl⟩
        obtain ⟨E, hE⟩ : ∃ E, Pl.foE G = E := ⟨_, rfl⟩
        rw [hT, hE] at HFM
        have hTE : (E = 0 ∧ Pl.Vf G ∧ T = Pl.txt G) ∨ (E = 3 ∧ ¬ Pl.Vf G) := by
          rw [← hE, ← hT]
          unfold Pl.foE Pl.foT
          cases hv : Pl.vf G
          · exact .inr ⟨rfl, fun h => by rw [Pl.vf_true.2 h] at hv; cases hv⟩
          · exact .inl ⟨rfl, Pl.vf_true.1 hv, rfl⟩
        have HGE := Lib.hid hG
        clear hr3 hk3 hm3 hG hGI hFG HRG HRD HX HF hT hE HW hlt hin hi3
        go_wp2_with (refine ldm_fm (s := G) q5 rfl _ rfl rfl ?_)
        refine HFM.out.mono ?_
        rintro e w6 ⟨rfl, hb6⟩
        have HB6 := Lib.hid (HBo.out.trans (hb6.mono HBo.out.size))
        have hF6 := HFG.out.below hb6 hlF
        have hZ6 := HZo.out.below hb6 HZo.out.lt
        have HGI6 := Lib.hid (HGI.out.below hb6)
        have HO6 := Lib.hid (own_keep HO.out hb6)
        have q6 := hF6.range
        clear hb6 q5 HFM HGI HFG HZo HBo
        rcases hTE with ⟨rfl, hvG, hTT⟩ | ⟨rfl, hnG⟩
        · have HVG := Lib.hid hvG
          have HTT := Lib.hid hTT
          clear hvG hTT
          by_cases hst : (⟨T.toArray⟩ : ByteArray) = s
          · have hse : (T == s.toList) = true := by rw [← hst]; simp
            have HYES : Hid (Pl.txt G = Pl.byt s) := Lib.hid (by rw [← HTT.out, ← hst]; unfold Pl.byt; simp)
            clear hst
            go_wp2_with (first | refine ldm_fm (s := G) q6 rfl _ rfl rfl ?_ | (refine st_fm (k := G) hZ6 rfl rfl _ _ rfl rfl rfl ?_; intro w9 hM9 hO9))
            have hB9 := HB6.out.trans (hO9.below (B := w.heap.size) (Nat.le_refl _))
            have hR9 : FmIn w9 G := by
              have hgb : w6.grownBy w9 (some w.heap.size) := ⟨hO9.os, hO9.tape, hO9.output, by rw [hO9.size]; exact Nat.le_refl _, fun k hk hne => hO9.block k (fun e => hne (by rw [e]))⟩
              have h9 := HO6.out.kept hgb (.inr (fun h => by have := (HO6.out.lt _ h).1; omega))
              obtain ⟨A4, k4, e4, hr4, _, _⟩ := rows_of_owns encLn h9
              cases e4
              have h5 := HGI6.out
              rw [HGE.out] at h5 ⊢
              exact ⟨hr4, h5.cap, h5.top, h5.each, h5.cus, h5.cur⟩
            have HR := Lib.hid (PRes.yes hB9 hR9 HVG.out HYES.out)
            exact bodyPost_ret (v := .tuple #[.agg (fmA G), .int .i64 0]) (results_cell2 Tryz.results11 _ _ w.heap.size 24 (fmA G) (0, 0) _ rfl hM9 _ rfl Tryz.underlying24 rfl infoFm) rfl HR.out
          · have hse : (T == s.toList) = false := by
              rw [beq_eq_false_iff_ne]
              intro e
              apply hst
              have h1 := bs_eq (⟨T.toArray⟩ : ByteArray) s
              have e2 : (⟨T.toArray⟩ : ByteArray).toList = T := by simp
              have e3 : (T == s.toList) = true := by rw [e]; simp
              rw [e2, e3] at h1
              exact of_decide_eq_true h1.symm
            have HNO := Lib.hid (HNG.out (fun h => hst (by rw [HTT.out, h.2, Pl.byt_back])))
            clear hst
            go_wp2_with (refine st_fm (k := fm0) hZ6 rfl rfl _ _ rfl rfl rfl ?_; intro w9 hM9 hO9)
            have hB9 := HB6.out.trans (hO9.below (B := w.heap.size) (Nat.le_refl _))
            have HR := Lib.hid (PRes.no hB9 HNO.out)
            exact bodyPost_ret (v := .tuple #[.agg (fmA fm0), .int .i64 3]) (results_cell2 Tryz.results11 _ _ w.heap.size 24 (fmA fm0) (0, 0) _ rfl hM9 _ rfl Tryz.underlying24 rfl infoFm) rfl HR.out
        · have HNO := Lib.hid (HNG.out (fun h => hnG h.1))
          clear hnG
          go_wp2_with (refine st_fm (k := fm0) hZ6 rfl rfl _ _ rfl rfl rfl ?_; intro w9 hM9 hO9)
          have hB9 := HB6.out.trans (hO9.below (B := w.heap.size) (Nat.le_refl _))
          have HR := Lib.hid (PRes.no hB9 HNO.out)
          exact bodyPost_ret (v := .tuple #[.agg (fmA fm0), .int .i64 3]) (results_cell2 Tryz.results11 _ _ w.heap.size 24 (fmA fm0) (0, 0) _ rfl hM9 _ rfl Tryz.underlying24 rfl infoFm) rfl HR.out
end Go.Proofs.YtbdnocijhbkclaaGreatDoor
