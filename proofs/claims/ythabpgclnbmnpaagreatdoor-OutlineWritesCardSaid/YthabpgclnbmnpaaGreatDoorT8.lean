/- The program's Format of a trace. -/
import Derived.Test.YthabpgclnbmnpaaGreatDoorT7
import Derived.Laws.AppendOwn
import Derived.OwnWalk
import Derived.Lib.SmallJoins
namespace Go.Proofs.YthabpgclnbmnpaaGreatDoor
open Go.RowKit Go.Shelf

theorem info_str : (Tryz.prog.info? 9).map (fun i => (i.zero, i.size, i.bytes)) = some (some (.string ⟨#[]⟩), 1, 16) := by kernel_rfl
def sts (l : List (List UInt8)) : List Value := l.map fun x => .string ⟨x.toArray⟩
theorem sts_len (l : List (List UInt8)) : (sts l).length = l.length := by simp [sts]
theorem new_st (W : World) (u : Value) : ∀ (j : Nat) (x : Value), [u][j]? = some x → (W.alloc (.cells #[u] 9)).cell? ((⟨W.heap.size, 0, none⟩ : Addr).add j) = some x := by
  intro j x hj
  have := World.cell?_alloc_mark W #[u] 9 (0, 0) j
  rw [show (⟨W.heap.size, 0, none⟩ : Addr).add j = ⟨W.heap.size, j, none⟩ from by cases j <;> simp [Addr.add], this]
  simpa using hj
theorem keep_own {w w' : World} {B k : Nat} {t : TypeId} {v : Value} {n : Nat} {xs : List Value} (h : w.ownsRow B t k v n xs) (hb : Below w.heap.size w w') : w'.ownsRow B t k v n xs := by
  refine h.kept (row := none) ⟨hb.os, hb.tape, hb.output, hb.size, fun k hk _ => hb.block k hk⟩ ?_
  rcases hv : v.ownBlock with _ | g
  · exact .inl rfl
  · exact .inr (by simp)
theorem own_ne_blk {W : World} {B g k n : Nat} {t t' : TypeId} {v : Value} {xs : List Value} {cs : Array Value} (h : W.ownsRow B t k v n xs) (hb : Blk W g t' cs) (ht : t ≠ t') : v.ownBlock ≠ some g := by
  intro e
  rcases h with ⟨_, ⟨rfl, _⟩ | ⟨g', cap, cur, rfl, _, hg, _⟩⟩
  · cases e
  · cases e
    unfold Blk at hb
    rw [hg] at hb
    injection hb with hb
    injection hb with _ h2 _
    exact ht h2
theorem Blk.grownBy {W W' : World} {g : Nat} {t : TypeId} {cs : Array Value} {v : Value} (h : Blk W g t cs) (hg : W.grownBy W' v.ownBlock) (hn : v.ownBlock ≠ some g) : Blk W' g t cs := (hg.block g h.lt (fun e => hn e.symm)).trans h
theorem cell_same {V W : World} {p : Addr} (h : V.heap[p.block]? = W.heap[p.block]?) : V.cell? p = W.cell? p := by unfold World.cell?; rw [h]
/-- the words of a row that is owned, joined -/
theorem join_own {B : Nat} {v : Value} {n : Nat} {l : List (List UInt8)} (sep : ByteArray) (W : World) (h : W.ownsRow B 9 1 v n (sts l)) (hn : n = l.length) (h0 : 0 < n) (h1 : n ≤ 100000) (hl : (Lib.join l sep.data.toList).length ≤ 100000000) :
    Calls Tryz.prog 15 #[v, .string sep] W fun e w' => e = .returned (.string ⟨(Lib.join l sep.data.toList).toArray⟩) ∧ Below W.heap.size W w' := by
  subst hn
  have hm : (l.map fun x => (⟨x.toArray⟩ : ByteArray)).map (·.data.toList) = l := by
    rw [List.map_map]
    exact (List.map_congr_left (g := id) (fun x _ => by simp)).trans (List.map_id l)
  obtain ⟨g, cap, rfl⟩ := Joins.ownsRow_form h h0
  rcases h.2 with ⟨h', _⟩ | ⟨g', cap', cur, hv, hB, hg, hc, hx, _⟩
  · cases h'
  cases hv
  have hlt : g < W.heap.size := by
    rcases Nat.lt_or_ge g W.heap.size with h | h
    · exact h
    · rw [Array.getElem?_eq_none h] at hg; cases hg
  have := Tryz.strings_Join g 0 cap (l.map fun x => (⟨x.toArray⟩ : ByteArray)) sep W (fun j x hj => by
    have hjl : j < l.length := by
      rcases Nat.lt_or_ge j l.length with h | h
      · exact h
      · rw [List.getElem?_map, List.getElem?_eq_none h] at hj; cases hj
    have hc := h.cellAt j (by omega)
    rw [Nat.zero_add, hc]
    unfold sts
    rw [List.getElem?_map] at hj ⊢
    rw [List.getElem?_eq_getElem hjl] at hj ⊢
    simp only [Option.map_some, Option.some.injEq] at hj ⊢
    rw [hj]) hlt (by rw [List.length_map]; omega) (by rw [List.length_map]; exact hc) (by rw [hm]; omega)
  rw [hm, List.length_map] at this
  exact this
theorem g_pow : Tryz.prog.globalNamed "internal/strconv.uint64pow10" = some 0 := by kernel_rfl
/-- what of the listed variables is read -/
structure EnvT (w : World) : Prop where
  tab : Lib.TabIs Tryz.prog w "internal/strconv.uint64pow10" .u64 Lib.pow10Tab
  tlt : 6 < w.heap.size
  tz : w.cell? ⟨6, 15, none⟩ = some (.int .u8 4)
theorem EnvT.below {w w' : World} (h : EnvT w) (hb : Below w.heap.size w w') : EnvT w' :=
  ⟨Joins.tab_stays g_pow h.tab hb (Nat.le_refl _), Nat.lt_of_lt_of_le h.tlt hb.size, (hb.cell (p := ⟨6, 15, none⟩) h.tlt).trans h.tz⟩
theorem below_grow (w : World) (k : Nat) (os : Array Obj) : RowKit.Below w.heap.size w (Sort.grow (w.drewN k) os) :=
  ⟨rfl, rfl, rfl, by show w.heap.size ≤ (w.heap ++ os).size; simp, fun j hj => by show (w.heap ++ os)[j]? = w.heap[j]?; rw [Array.getElem?_append_left hj]⟩
theorem itoa_t (n : Int) (h : -100000000 ≤ n ∧ n ≤ 100000000) (w : World) (hE : EnvT w) : Calls Tryz.prog 13 #[.int .i64 n] w fun e w' => e = .returned (.string ⟨(Tx.dcm n).toArray⟩) ∧ Below w.heap.size w w' := by
  refine (Tryz.strconv_Itoa n (by omega) (by omega) w hE.tab).mono ?_
  rintro e w' ⟨rfl, k, os, rfl⟩
  exact ⟨by rw [Tx.itoa_dcm], below_grow _ _ _⟩
theorem dcm_nat (n : Nat) : Tx.dcm (n : Int) = Tx.dgs n := by
  unfold Tx.dcm
  rw [if_neg (by omega), Int.toNat_natCast]
set_option maxRecDepth 100000 in
set_option maxHeartbeats 2000000 in
theorem dformat_inv (j : ByteArray) (b : UInt8) (A : Option Addr) (l : List Geo.XY) (c : Nat) (hv : validB l = false) (w : World) (hP : Pts w A l) :
    Calls Tryz.prog 4 #[.agg #[.string j, .int .u8 b.toNat, .slice A l.length c]] w fun e w' => e = .returned (.tuple #[.string ⟨#[]⟩, .int .i64 10]) ∧ Below w.heap.size w w' := by
  have hB := (Below.refl w.heap.size w).alloc (Nat.le_refl _) (.cells #[.string j, .int .u8 b.toNat, .slice A l.length c] 24)
  have HV := Lib.hid (dvalid_b A l c _ (hP.below hB) false hv)
  have HB := Lib.hid hB
  clear hP hv hB
  go_enter Tryz.func4, Tryz.ntmps4
  go_wp2_with fail
  refine HV.out.mono ?_
  rintro e w1 ⟨rfl, hb1⟩
  have HB1 := Lib.hid (HB.out.trans (hb1.mono HB.out.size))
  clear hb1
  go_wp2_with fail
  go_ret2
  exact ⟨rfl, HB1.out⟩
set_option maxRecDepth 100000 in
set_option maxHeartbeats 4000000 in
theorem dformat_bad (j : ByteArray) (b : UInt8) (A : Option Addr) (l : List Geo.XY) (c : Nat) (hv : validB l = true) (hx : (Tx.jobB (Tx.byt j) && Tx.sideB b) = false) (w : World) (hP : Pts w A l) :
    Calls Tryz.prog 4 #[.agg #[.string j, .int .u8 b.toNat, .slice A l.length c]] w fun e w' => e = .returned (.tuple #[.string ⟨#[]⟩, .int .i64 3]) ∧ Below w.heap.size w w' := by
  have hB := (Below.refl w.heap.size w).alloc (Nat.le_refl _) (.cells #[.string j, .int .u8 b.toNat, .slice A l.length c] 24)
  have bF := Blk.new w 24 #[.string j, .int .u8 b.toNat, .slice A l.length c]
  have HV := Lib.hid (dvalid_b A l c _ (hP.below hB) true hv)
  obtain ⟨v, hvj⟩ : ∃ v, Tx.jobB (Tx.byt j) = v := ⟨_, rfl⟩
  obtain ⟨u, hus⟩ : ∃ u, Tx.sideB b = u := ⟨_, rfl⟩
  have HJ := Lib.hid (isjob_any j v hvj)
  have HU := Lib.hid (isside_any b u hus)
  rw [hvj, hus] at hx
  have HB := Lib.hid hB
  have HF := Lib.hid bF
  have hFl := bF.lt
  clear hP hv hB bF hvj hus
  go_enter Tryz.func4, Tryz.ntmps4
  go_wp2_with fail
  refine HV.out.mono ?_
  rintro e w1 ⟨rfl, hb1⟩
  have HB1 := Lib.hid (HB.out.trans (hb1.mono HB.out.size))
  have bF1 := HF.out.below hb1 hFl
  have p0 := bF1.cell 0
  have p1 := bF1.cell 1
  have p2 := bF1.cell 2
  have hcv := conv_one w1 b b.toNat rfl
  have HB2 := Lib.hid (HB1.out.alloc HB1.out.size (.cells #[.int .u8 b.toNat] 5))
  have q0 := (bF1.alloc (.cells #[.int .u8 b.toNat] 5)).cell 0
  clear hb1 hFl HF bF1
  generalize w.alloc (.cells #[.string j, .int .u8 b.toNat, .slice A l.length c] 24) = W at *
  cases v with
  | false =>
    clear hx
    go_wp2_with fail
    refine (HJ.out _).mono ?_
    rintro e w2 ⟨rfl, rfl⟩
    go_wp2_with fail
    go_ret2
    exact ⟨rfl, HB2.out⟩
  | true =>
    have hu : u = false := by simpa using hx
    subst hu
    clear hx
    go_wp2_with fail
    refine (HJ.out _).mono ?_
    rintro e w2 ⟨rfl, rfl⟩
    go_wp2_with fail
    refine (HU.out _).mono ?_
    rintro e w2 ⟨rfl, rfl⟩
    go_wp2_with fail
    go_ret2
    exact ⟨rfl, HB2.out⟩
set_option maxRecDepth 100000 in
set_option maxHeartbeats 4000000 in
theorem dformat_ok (j : ByteArray) (b : UInt8) (A : Option Addr) (l : List Geo.XY) (c : Nat) (hcap : l.length ≤ c) (hv : validB l = true) (hjv : Tx.jobB (Tx.byt j) = true) (hsv : Tx.sideB b = true) (w : World) (hP : Pts w A l) (hE : EnvT w) :
    Calls Tryz.prog 4 #[.agg #[.string j, .int .u8 b.toNat, .slice A l.length c]] w fun e w' => e = .returned (.tuple #[.string ⟨(Tx.txt (Tx.byt j) b (Geo.canon l)).toArray⟩, .int .i64 0]) ∧ Below w.heap.size w w' := by
  obtain ⟨i0, hi, hz0, hz1, hz2⟩ := info_parts info_str
  have hval := valid_of hv
  have hj12 : j.size ≤ 12 := by
    rw [jobB_eq, Tx.byt_len] at hjv
    simp at hjv
    omega
  have hl3 := hval.1
  have hl64 := hval.2.1
  have hB := (Below.refl w.heap.size w).alloc (Nat.le_refl _) (.cells #[.string j, .int .u8 b.toNat, .slice A l.length c] 24)
  have bF := Blk.new w 24 #[.string j, .int .u8 b.toNat, .slice A l.length c]
  have HV := Lib.hid (dvalid_b A l c _ (hP.below hB) true hv)
  have HJ := Lib.hid (isjob_any j true hjv)
  have HU := Lib.hid (isside_any b true hsv)
  have HCT := Lib.hid (fun w1 hP1 => dcanon_p A l c (by omega) hl64 hcap w1 hP1)
  have HCI := Lib.hid (canon_in hval.allin)
  have hcl := Geo.canon_length l
  have HD := Lib.hid (fun W hW => itoa_t (l.length : Int) (by omega) W hW)
  rw [dcm_nat] at HD
  obtain ⟨RW, hRW⟩ : ∃ RW, Tx.rows (Tx.byt j) b (Geo.canon l) = RW := ⟨_, rfl⟩
  have HRL : Hid (RW.length = l.length + 4) := Lib.hid (by rw [← hRW]; unfold Tx.rows; simp; omega)
  have HRG : Hid (∀ k, k < l.length → RW.take (k + 4 + 1) = RW.take (k + 4) ++ [Tx.rowP (Geo.X (Geo.canon l) k)]) := Lib.hid (fun k hk => by
    have h : RW[k + 4]? = some (Tx.rowP (Geo.X (Geo.canon l) k)) := by
      rw [← hRW]
      unfold Tx.rows Geo.X
      simp only [List.getElem?_cons_succ, List.getElem?_map]
      rw [List.getElem?_eq_getElem (by omega)]
      rfl
    rw [List.take_add_one, h]
    rfl)
  have HS4 : Hid (#[Value.string ⟨#[84, 82, 65, 67, 69, 32, 49]⟩, .string (⟨#[74, 79, 66, 32]⟩ ++ j), .string (⟨#[83, 73, 68, 69, 32]⟩ ++ ⟨[b].toArray⟩), .string (⟨#[80, 79, 73, 78, 84, 83, 32]⟩ ++ ⟨(Tx.dgs l.length).toArray⟩)].toList = sts (RW.take 4)) := Lib.hid (by
    rw [← hRW]
    unfold Tx.rows sts Tx.byt
    rw [hcl]
    simp only [List.take_succ_cons, List.take_zero, List.map_cons, List.map_nil, List.cons.injEq, Value.string.injEq, and_true, true_and]
    refine ⟨ByteArray.ext ?_, ByteArray.ext ?_, ByteArray.ext ?_⟩ <;> simp [ByteArray.data_append])
  obtain ⟨FR, hFR⟩ : ∃ FR, Tx.front (Tx.byt j) b (Geo.canon l) = FR := ⟨_, rfl⟩
  have hFL : FR.length ≤ 1900 := by rw [← hFR]; exact front_len _ _ _ (by rw [Tx.byt_len]; exact hj12) (by rw [Geo.canon_length]; omega) (canon_in hval.allin)
  have HJR : Hid (Lib.join RW [10] ++ [10] = FR) := Lib.hid (by rw [← hRW, ← hFR]; exact Tx.join_front _ _ _)
  have HTX : Hid (Tx.txt (Tx.byt j) b (Geo.canon l) = Tx.byt (⟨FR.toArray⟩ ++ ⟨#[83, 85, 77, 32]⟩ ++ ⟨(Tx.hex4 (Tx.sumN FR)).toArray⟩ ++ ⟨#[10]⟩)) := Lib.hid (by
    unfold Tx.txt
    rw [hFR]
    unfold Tx.byt
    simp [ByteArray.data_append])
  have HSM := Lib.hid (fun (W : World) (hW : EnvT W) => sum_any ⟨FR.toArray⟩ (by rw [bsz]; omega) W (fun w' hb => (hb.cell (p := ⟨6, 15, none⟩) hW.tlt).trans hW.tz))
  rw [Tx.byt_mk] at HSM
  have k1 : ¬ 9223372036854775807 < FR.length + 4 := by omega
  have hx4 : (Tx.hex4 (Tx.sumN FR)).length = 4 := rfl
  have k2 : ¬ 9223372036854775807 < FR.length + 4 + (Tx.hex4 (Tx.sumN FR)).length := by omega
  have k3 : ¬ 9223372036854775807 < FR.length + 4 + (Tx.hex4 (Tx.sumN FR)).length + 1 := by omega
  clear hx4
  obtain ⟨TX, hTX⟩ : ∃ TX, Tx.txt (Tx.byt j) b (Geo.canon l) = TX := ⟨_, rfl⟩
  rw [hTX] at HTX ⊢
  have hdl : (⟨(Tx.dgs l.length).toArray⟩ : ByteArray).size ≤ 12 := by rw [bsz]; exact Tx.dgs_len _ 12 (by decide) (by omega)
  generalize hdd : (⟨(Tx.dgs l.length).toArray⟩ : ByteArray) = dd at *
  have m1 : ¬ 9223372036854775807 < 4 + j.size := by omega
  have m2 : ¬ 9223372036854775807 < 7 + dd.size := by omega
  have HE := Lib.hid hE
  have HB := Lib.hid hB
  have HF := Lib.hid bF
  have hFl := bF.lt
  have HP := Lib.hid hP
  clear hP hv hB bF hval hjv hsv hTX hFR hRW hdd hE
  generalize Geo.canon l = cl at *
  generalize Tx.hex4 (Tx.sumN FR) = sm at *
  go_enter Tryz.func4, Tryz.ntmps4
  go_wp2_with fail
  refine HV.out.mono ?_
  rintro e w1 ⟨rfl, hb1⟩
  have HB1 := Lib.hid (HB.out.trans (hb1.mono HB.out.size))
  have bF1 := HF.out.below hb1 hFl
  have p0 := bF1.cell 0
  have p1 := bF1.cell 1
  have p2 := bF1.cell 2
  have hcv := conv_one w1 b b.toNat rfl
  have HB2 := Lib.hid (HB1.out.alloc HB1.out.size (.cells #[.int .u8 b.toNat] 5))
  have bF2 := bF1.alloc (.cells #[.int .u8 b.toNat] 5)
  have q0 := bF2.cell 0
  have hFl2 := bF2.lt
  have HF2 := Lib.hid bF2
  clear hb1 hFl HF bF1 HB HB1 bF2
  generalize w.alloc (.cells #[.string j, .int .u8 b.toNat, .slice A l.length c] 24) = W at *
  go_wp2_with fail
  refine (HJ.out _).mono ?_
  rintro e w2 ⟨rfl, rfl⟩
  go_wp2_with fail
  refine (HU.out _).mono ?_
  rintro e w2 ⟨rfl, rfl⟩
  clear p0 p1 p2 q0 hcv
  generalize w1.alloc (.cells #[.int .u8 b.toNat] 5) = W5 at *
  generalize w1.heap.size = gb at *
  clear HJ HU HV
  have z0 := fun s : Ext W5 => s.cell (p := ⟨w.heap.size, 0, none⟩) (HF2.out.cell 0)
  have z2 := fun s : Ext W5 => s.cell (p := ⟨w.heap.size, 2, none⟩) (HF2.out.cell 2)
  have HE5 := Lib.hid (HE.out.below HB2.out)
  go_wp2_with fail
  refine wp_region_held (S := fun V9 => ∃ s : Ext W5, V9 = s.w) (by kernel_rfl) ?_
  change wpAnyH _ _ _ _ _ _ _ _ (World.drew _)
  have hS : ∃ s : Ext W5, (World.drew W5) = s.w := ⟨⟨_, (Below.refl _ _).drew⟩, rfl⟩
  generalize World.drew W5 = W5d at *
  refine takeD (i := 0) (d := (some 26)) (v := ?_) rfl rfl (by kernel_rfl) (by decide +kernel) (by decide +kernel) (fun _ _ _ h => h) (Or.inl ⟨by first | kernel_rfl | rfl, ?_⟩) hS ?_
  rotate_left
  · intro w' hT; obtain ⟨s, rfl⟩ := hT; have p0 := z0 s; have p2 := z2 s; first | (go_simp; done) | (go_simp; with_reducible rfl)
  refine takeD (i := 1) (d := (some 27)) (v := ?_) rfl rfl (by kernel_rfl) (by decide +kernel) (by decide +kernel) (fun _ _ _ h => h) (Or.inl ⟨by first | kernel_rfl | rfl, ?_⟩) hS ?_
  rotate_left
  · intro w' hT; obtain ⟨s, rfl⟩ := hT; have p0 := z0 s; have p2 := z2 s; first | (go_simp; done) | (go_simp; with_reducible rfl)
  refine takeD (i := 2) (d := (some 28)) (v := ?_) rfl rfl (by kernel_rfl) (by decide +kernel) (by decide +kernel) (fun _ _ _ h => h) (Or.inl ⟨by first | kernel_rfl | rfl, ?_⟩) hS ?_
  rotate_left
  · intro w' hT; obtain ⟨s, rfl⟩ := hT; have p0 := z0 s; have p2 := z2 s; first | (go_simp; done) | (go_simp; with_reducible rfl)
  refine takeD (i := 3) (d := (some 29)) (v := ?_) rfl rfl (by kernel_rfl) (by decide +kernel) (by decide +kernel) (fun _ _ _ h => h) (Or.inl ⟨by first | kernel_rfl | rfl, ?_⟩) hS ?_
  rotate_left
  · intro w' hT; obtain ⟨s, rfl⟩ := hT; have p0 := z0 s; have p2 := z2 s; first | (go_simp; done) | (go_simp; with_reducible rfl)
  refine takeD (i := 4) (d := (some 30)) (v := ?_) rfl rfl (by kernel_rfl) (by decide +kernel) (by decide +kernel) (fun _ _ _ h => h) (Or.inl ⟨by first | kernel_rfl | rfl, ?_⟩) hS ?_
  rotate_left
  · intro w' hT; obtain ⟨s, rfl⟩ := hT; have p0 := z0 s; have p2 := z2 s; first | (go_simp; done) | (go_simp; with_reducible rfl)
  refine takeD (i := 5) (d := (some 31)) (v := ?_) rfl rfl (by kernel_rfl) (by decide +kernel) (by decide +kernel) (fun _ _ _ h => h) (Or.inl ⟨by first | kernel_rfl | rfl, ?_⟩) hS ?_
  rotate_left
  · intro w' hT; obtain ⟨s, rfl⟩ := hT; have p0 := z0 s; have p2 := z2 s; first | (go_simp; done) | (go_simp; with_reducible rfl)
  refine takeD (i := 6) (d := (some 32)) (v := ?_) rfl rfl (by kernel_rfl) (by decide +kernel) (by decide +kernel) (fun _ _ _ h => h) (Or.inl ⟨by first | kernel_rfl | rfl, ?_⟩) hS ?_
  rotate_left
  · intro w' hT; obtain ⟨s, rfl⟩ := hT; have p0 := z0 s; have p2 := z2 s; first | (go_simp; done) | (go_simp; with_reducible rfl)
  refine takeD (i := 7) (d := (some 33)) (v := ?_) rfl rfl (by kernel_rfl) (by decide +kernel) (by decide +kernel) (fun _ _ _ h => h) (Or.inl ⟨by first | kernel_rfl | rfl, ?_⟩) hS ?_
  rotate_left
  · intro w' hT; obtain ⟨s, rfl⟩ := hT; have p0 := z0 s; have p2 := z2 s; first | (go_simp; done) | (go_simp; with_reducible rfl)
  refine actNorm (fun a' ha => ?_); (try simp [go_sem] at ha); subst ha
  refine wpAnyH_all (rs := [8]) (by decide +kernel) (by simp) ?_
  intro i0 hi0
  have hi1 := List.mem_singleton.1 hi0
  clear hi0
  subst hi1
  obtain ⟨s0, rfl⟩ := hS
  refine wpOp_goE rfl (by kernel_rfl) (fun K hK => ?_)
  go_simp
  refine (HD.out s0.w (HE5.out.below s0.h)).mono ?_
  rintro e W6 ⟨rfl, hb1⟩
  have hS : ∃ s : Ext W5, W6 = s.w := ⟨⟨_, s0.h.trans (hb1.mono s0.h.size)⟩, rfl⟩
  clear hb1
  refine hK _ _ ⟨hS, ?_⟩
  clear hK K
  refine takeD (i := 9) (d := (some 35)) (v := ?_) rfl rfl (by kernel_rfl) (by decide +kernel) (by decide +kernel) (fun _ _ _ h => h) (Or.inl ⟨by first | kernel_rfl | rfl, ?_⟩) hS ?_
  rotate_left
  · intro w' hT; obtain ⟨s, rfl⟩ := hT; have p0 := z0 s; have p2 := z2 s; first | (go_simp; done) | (go_simp; with_reducible rfl)
  refine actNorm (fun a' ha => ?_); (try simp [go_sem] at ha); subst ha
  refine wpAnyH_all (rs := [10]) (by decide +kernel) (by simp) ?_
  intro i0 hi0
  have hi1 := List.mem_singleton.1 hi0
  clear hi0
  subst hi1
  obtain ⟨s1, rfl⟩ := hS
  refine wpOp_goE rfl (by kernel_rfl) (fun K hK => ?_)
  go_simp
  have hS : ∃ s : Ext W5, s1.w.alloc (.cells #[.string ⟨#[84, 82, 65, 67, 69, 32, 49]⟩, .string (⟨#[74, 79, 66, 32]⟩ ++ j), .string (⟨#[83, 73, 68, 69, 32]⟩ ++ ⟨[b].toArray⟩), .string (⟨#[80, 79, 73, 78, 84, 83, 32]⟩ ++ dd)] 9) = s.w := ⟨⟨_, s1.h.alloc s1.h.size _⟩, rfl⟩
  have hown : (s1.w.alloc (.cells #[.string ⟨#[84, 82, 65, 67, 69, 32, 49]⟩, .string (⟨#[74, 79, 66, 32]⟩ ++ j), .string (⟨#[83, 73, 68, 69, 32]⟩ ++ ⟨[b].toArray⟩), .string (⟨#[80, 79, 73, 78, 84, 83, 32]⟩ ++ dd)] 9)).ownsRow w.heap.size 9 1 (.slice (some ⟨s1.w.heap.size, 0, none⟩) 4 4) 4 (sts (RW.take 4)) := by
    rw [← HS4.out]
    exact World.ownsRow_lit (base := w.heap.size) (e := 9) (size := 1) s1.w #[.string ⟨#[84, 82, 65, 67, 69, 32, 49]⟩, .string (⟨#[74, 79, 66, 32]⟩ ++ j), .string (⟨#[83, 73, 68, 69, 32]⟩ ++ ⟨[b].toArray⟩), .string (⟨#[80, 79, 73, 78, 84, 83, 32]⟩ ++ dd)] 4 (Nat.le_trans HB2.out.size s1.h.size) (by unfold maxLen; omega) rfl
  refine hK _ _ ⟨hS, ?_⟩
  clear hK K
  generalize s1.w.alloc (.cells #[.string ⟨#[84, 82, 65, 67, 69, 32, 49]⟩, .string (⟨#[74, 79, 66, 32]⟩ ++ j), .string (⟨#[83, 73, 68, 69, 32]⟩ ++ ⟨[b].toArray⟩), .string (⟨#[80, 79, 73, 78, 84, 83, 32]⟩ ++ dd)] 9) = W7 at *
  refine takeD (i := 11) (d := (some 5)) (v := ?_) rfl rfl (by kernel_rfl) (by decide +kernel) (by decide +kernel) (fun _ _ _ h => h) (Or.inl ⟨by first | kernel_rfl | rfl, ?_⟩) hS ?_
  rotate_left
  · intro w' hT; obtain ⟨s, rfl⟩ := hT; first | (go_simp; done) | (go_simp; with_reducible rfl)
  refine wpAnyH_done (by decide +kernel) ?_ _
  obtain ⟨s2, hs2⟩ := hS
  have hW7 : Below W5.heap.size W5 W7 := by rw [hs2]; exact s2.h
  have HB7 := Lib.hid (HB2.out.trans (hW7.mono HB2.out.size))
  have p2 : W7.cell? ⟨w.heap.size, 2, none⟩ = some (.slice A l.length c) := (hW7.cell (p := ⟨w.heap.size, 2, none⟩) hFl2).trans (HF2.out.cell 2)
  generalize s1.w.heap.size = g1 at *
  have HO7 := Lib.hid hown
  have HP7 := Lib.hid (HP.out.below HB7.out)
  clear z0 z2 m1 m2 HD HF2 HS4 hs2 s2 hown hW7 s1 hFl2 HP HB2 HE5
  go_wp2_with fail
  refine (HCT.out _ HP7.out).mono ?_
  rintro e w3 ⟨v, rfl, hown, hb3⟩
  have HB3 := Lib.hid (HB7.out.trans (hb3.mono HB7.out.size))
  have HO3 := Lib.hid (keep_own HO7.out hb3)
  obtain ⟨A', c', rfl, hP3⟩ := pts_of_owns hown
  rcases hown with ⟨_, ⟨h, h0⟩ | ⟨gq, cap, cur, hvv, hgq, hBq, _⟩⟩
  · omega
  cases hvv
  have hBq : Blk w3 gq 42 cur := hBq
  have HG3 := Lib.hid hBq
  have HCU : Hid (∀ k, k < l.length → cur[k * 2]? = some (.int .i64 (Geo.X cl k).1) ∧ cur[k * 2 + 1]? = some (.int .i64 (Geo.X cl k).2)) := Lib.hid (fun k hk => by
    obtain ⟨bb, off, he, _, hc⟩ := pts_open hP3 (by omega)
    cases he
    have h := hc k (by omega)
    rw [hBq.cell, hBq.cell] at h
    simpa using h)
  clear hP3 hb3 hBq HP7 HCT p2 HO7 HB7
  go_wp2_with fail
  go_loopw [5, 7, 41] (fun v _ i wr => ∃ k : Nat, k ≤ l.length ∧ i = .int .i64 k ∧ Hid (wr.ownsRow w.heap.size 9 1 v (k + 4) (sts (RW.take (k + 4)))) ∧ Hid (Blk wr gq 42 cur) ∧ Hid (Below w.heap.size w wr)) (fun _ _ i _ => l.length - (intOf i).toNat)
  case atStart => exact ⟨0, Nat.zero_le _, rfl, HO3, HG3, HB3⟩
  case round =>
    obtain ⟨k, hk, rfl, HO, HG, HW⟩ := hrel
    obtain ⟨wo, rfl⟩ : ∃ wo, wo = wr := ⟨_, rfl⟩
    by_cases hlt : k < l.length
    · have hltI : (k : Int) < (l.length : Int) := by omega
      have HLT := Lib.hid hlt
      have c1 : wo.cell? ⟨gq, k * 2, none⟩ = some (.int .i64 (Geo.X cl k).1) := (HG.out.cell _).trans (HCU.out k hlt).1
      have c2 : wo.cell? ⟨gq, k * 2 + 1, none⟩ = some (.int .i64 (Geo.X cl k).2) := (HG.out.cell _).trans (HCU.out k hlt).2
      have hin := in_small (HCI.out k (by omega))
      have HTK := Lib.hid (HRG.out k hlt)
      generalize Geo.X cl k = x at *
      have bE := Blk.new wo 42 #[.int .i64 x.1, .int .i64 x.2]
      have HBE := Lib.hid ((Below.refl wo.heap.size wo).alloc (Nat.le_refl _) (.cells #[.int .i64 x.1, .int .i64 x.2] 42))
      have HWE := Lib.hid (HW.out.trans (HBE.out.mono HW.out.size))
      have HOE := Lib.hid (keep_own HO.out HBE.out)
      have HGE := Lib.hid (HG.out.alloc (.cells #[.int .i64 x.1, .int .i64 x.2] 42))
      have HPE := Lib.hid bE
      have HD1 := Lib.hid (fun W hW => itoa_t x.1 hin.1 W hW)
      have HD2 := Lib.hid (fun W hW => itoa_t x.2 hin.2 W hW)
      have hd1 : (⟨(Tx.dcm x.1).toArray⟩ : ByteArray).size ≤ 13 := by rw [bsz]; exact dcm_len _ hin.1
      have hd2 : (⟨(Tx.dcm x.2).toArray⟩ : ByteArray).size ≤ 13 := by rw [bsz]; exact dcm_len _ hin.2
      have HLN : Hid ((⟨(Tx.dcm x.1).toArray⟩ ++ ⟨#[32]⟩ ++ ⟨(Tx.dcm x.2).toArray⟩ : ByteArray) = ⟨(Tx.rowP x).toArray⟩) := Lib.hid (by
        apply ByteArray.ext
        unfold Tx.rowP
        simp [ByteArray.data_append])
      generalize (⟨(Tx.dcm x.1).toArray⟩ : ByteArray) = d1 at *
      generalize (⟨(Tx.dcm x.2).toArray⟩ : ByteArray) = d2 at *
      have n1 : ¬ 9223372036854775807 < d1.size + 1 := by omega
      have n2 : ¬ 9223372036854775807 < d1.size + 1 + d2.size := by omega
      have e0 := bE.cell 0
      have e1 := bE.cell 1
      have hgp := bE.lt
      clear hin hd1 hd2 hlt bE
      go_wp2_with fail
      generalize wo.alloc (.cells #[.int .i64 x.1, .int .i64 x.2] 42) = wa at *
      generalize wo.heap.size = gp at *
      refine wp_region_held (S := fun V9 => V9.heap[gp]? = wa.heap[gp]?) (by kernel_rfl) ?_
      change wpAnyH _ _ _ _ _ _ _ _ (World.drew _)
      have hS : (World.drew wa).heap[gp]? = wa.heap[gp]? := rfl
      have HOd : Hid ((World.drew wa).ownsRow w.heap.size 9 1 _ (k + 4) (sts (RW.take (k + 4)))) := Lib.hid HOE.out
      have HGd : Hid (Blk (World.drew wa) gq 42 cur) := Lib.hid HGE.out
      have HWd : Hid (Below w.heap.size w (World.drew wa)) := Lib.hid HWE.out.drew
      have hgd : gp < (World.drew wa).heap.size := hgp
      generalize World.drew wa = wd at *
      refine takeD (i := 0) (d := (some 45)) (v := ?_) rfl rfl (by kernel_rfl) (by decide +kernel) (by decide +kernel) (fun _ _ _ h => h) (Or.inl ⟨by first | kernel_rfl | rfl, ?_⟩) hS ?_
      rotate_left
      · intro w' hT; have p0 := (cell_same (p := ⟨gp, 0, none⟩) hT).trans e0; have p1 := (cell_same (p := ⟨gp, 1, none⟩) hT).trans e1; first | (go_simp; done) | (go_simp; with_reducible rfl)
      refine takeD (i := 1) (d := (some 46)) (v := ?_) rfl rfl (by kernel_rfl) (by decide +kernel) (by decide +kernel) (fun _ _ _ h => h) (Or.inl ⟨by first | kernel_rfl | rfl, ?_⟩) hS ?_
      rotate_left
      · intro w' hT; have p0 := (cell_same (p := ⟨gp, 0, none⟩) hT).trans e0; have p1 := (cell_same (p := ⟨gp, 1, none⟩) hT).trans e1; first | (go_simp; done) | (go_simp; with_reducible rfl)
      refine takeD (i := 2) (d := (some 47)) (v := ?_) rfl rfl (by kernel_rfl) (by decide +kernel) (by decide +kernel) (fun _ _ _ h => h) (Or.inl ⟨by first | kernel_rfl | rfl, ?_⟩) hS ?_
      rotate_left
      · intro w' hT; have p0 := (cell_same (p := ⟨gp, 0, none⟩) hT).trans e0; have p1 := (cell_same (p := ⟨gp, 1, none⟩) hT).trans e1; first | (go_simp; done) | (go_simp; with_reducible rfl)
      refine takeD (i := 5) (d := (some 50)) (v := ?_) rfl rfl (by kernel_rfl) (by decide +kernel) (by decide +kernel) (fun _ _ _ h => h) (Or.inl ⟨by first | kernel_rfl | rfl, ?_⟩) hS ?_
      rotate_left
      · intro w' hT; have p0 := (cell_same (p := ⟨gp, 0, none⟩) hT).trans e0; have p1 := (cell_same (p := ⟨gp, 1, none⟩) hT).trans e1; first | (go_simp; done) | (go_simp; with_reducible rfl)
      refine takeD (i := 6) (d := (some 51)) (v := ?_) rfl rfl (by kernel_rfl) (by decide +kernel) (by decide +kernel) (fun _ _ _ h => h) (Or.inl ⟨by first | kernel_rfl | rfl, ?_⟩) hS ?_
      rotate_left
      · intro w' hT; have p0 := (cell_same (p := ⟨gp, 0, none⟩) hT).trans e0; have p1 := (cell_same (p := ⟨gp, 1, none⟩) hT).trans e1; first | (go_simp; done) | (go_simp; with_reducible rfl)
      refine actNorm (fun a' ha => ?_); (try simp [go_sem] at ha); subst ha
      refine wpAnyH_all (rs := [3]) (by decide +kernel) (by simp) ?_
      intro i0 hi0
      have hi1 := List.mem_singleton.1 hi0
      clear hi0
      subst hi1
      refine wpOp_goE rfl (by kernel_rfl) (fun K hK => ?_)
      go_simp
      refine (HD1.out _ (HE.out.below HWd.out)).mono ?_
      rintro e wb ⟨rfl, hb1⟩
      have hS : wb.heap[gp]? = wa.heap[gp]? := (hb1.block gp hgd).trans hS
      have HOd := Lib.hid (keep_own HOd.out hb1)
      have HGd := Lib.hid (HGd.out.below hb1 HGd.out.lt)
      have HWd := Lib.hid (HWd.out.trans (hb1.mono HWd.out.size))
      have hgd := Nat.lt_of_lt_of_le hgd hb1.size
      clear hb1
      refine hK _ _ ⟨hS, ?_⟩
      clear hK K
      refine takeD (i := 4) (d := (some 49)) (v := ?_) rfl rfl (by kernel_rfl) (by decide +kernel) (by decide +kernel) (fun _ _ _ h => h) (Or.inl ⟨by first | kernel_rfl | rfl, ?_⟩) hS ?_
      rotate_left
      · intro w' hT; have p0 := (cell_same (p := ⟨gp, 0, none⟩) hT).trans e0; have p1 := (cell_same (p := ⟨gp, 1, none⟩) hT).trans e1; first | (go_simp; done) | (go_simp; with_reducible rfl)
      refine actNorm (fun a' ha => ?_); (try simp [go_sem] at ha); subst ha
      refine wpAnyH_all (rs := [7]) (by decide +kernel) (by simp) ?_
      intro i0 hi0
      have hi1 := List.mem_singleton.1 hi0
      clear hi0
      subst hi1
      refine wpOp_goE rfl (by kernel_rfl) (fun K hK => ?_)
      go_simp
      refine (HD2.out _ (HE.out.below HWd.out)).mono ?_
      rintro e we ⟨rfl, hb1⟩
      have hS : we.heap[gp]? = wa.heap[gp]? := (hb1.block gp hgd).trans hS
      have HOd := Lib.hid (keep_own HOd.out hb1)
      have HGd := Lib.hid (HGd.out.below hb1 HGd.out.lt)
      have HWd := Lib.hid (HWd.out.trans (hb1.mono HWd.out.size))
      have hgd := Nat.lt_of_lt_of_le hgd hb1.size
      clear hb1
      refine hK _ _ ⟨hS, ?_⟩
      clear hK K
      refine takeD (i := 8) (d := (some 53)) (v := ?_) rfl rfl (by kernel_rfl) (by decide +kernel) (by decide +kernel) (fun _ _ _ h => h) (Or.inl ⟨by first | kernel_rfl | rfl, ?_⟩) hS ?_
      rotate_left
      · intro w' hT; have p0 := (cell_same (p := ⟨gp, 0, none⟩) hT).trans e0; have p1 := (cell_same (p := ⟨gp, 1, none⟩) hT).trans e1; first | (go_simp; done) | (go_simp; with_reducible rfl)
      refine actNorm (fun a' ha => ?_); (try simp [go_sem] at ha); subst ha
      refine wpAnyH_all (rs := [9]) (by decide +kernel) (by simp) ?_
      intro i0 hi0
      have hi1 := List.mem_singleton.1 hi0
      clear hi0
      subst hi1
      refine wpOp_goE rfl (by kernel_rfl) (fun K hK => ?_)
      go_simp
      have hS : (we.alloc (.cells #[.string (d1 ++ ⟨#[32]⟩ ++ d2)] 9)).heap[gp]? = wa.heap[gp]? := (Below.heap_alloc we _ gp hgd).trans hS
      have hownA := HOd.out.alloc (.cells #[.string (d1 ++ ⟨#[32]⟩ ++ d2)] 9)
      have HGa := Lib.hid (HGd.out.alloc (.cells #[.string (d1 ++ ⟨#[32]⟩ ++ d2)] 9))
      have HWa := Lib.hid (HWd.out.alloc HWd.out.size (.cells #[.string (d1 ++ ⟨#[32]⟩ ++ d2)] 9))
      have hnew := new_st we (.string (d1 ++ ⟨#[32]⟩ ++ d2))
      have hgA : w.heap.size ≤ (we.alloc (.cells #[.string (d1 ++ ⟨#[32]⟩ ++ d2)] 9)).heap.size := HWa.out.size
      refine hK _ _ ⟨hS, ?_⟩
      clear hK K
      generalize we.alloc (.cells #[.string (d1 ++ ⟨#[32]⟩ ++ d2)] 9) = wA at *
      generalize we.heap.size = nA at *
      refine actNorm (fun a' ha => ?_); (try simp [go_sem] at ha); subst ha
      refine wpAnyH_all (rs := [10]) (by decide +kernel) (by simp) ?_
      intro i0 hi0
      have hi1 := List.mem_singleton.1 hi0
      clear hi0
      subst hi1
      refine wpOp_goE rfl (by kernel_rfl) (fun K hK => ?_)
      refine wp_append_own _ _ _ 39 rfl w.heap.size 9 i0 _ 1 16 Tryz.underlying39 hi hz0 hz1 hz2 rfl (by decide) _ _ _ rfl hownA ⟨nA, 0, none⟩ 1 1 [.string (d1 ++ ⟨#[32]⟩ ++ d2)] rfl rfl hnew (fun u hu => by simp at hu; subst hu; rfl) (by unfold maxLen; omega) (by omega) hgA ?_
      intro v9 w9 own9 hg9 _
      have hb9 : Below w.heap.size wA w9 := (Below.refl _ wA).grown hg9 hgA (fun s e => (hownA.lt s e).1)
      have hG9 := HGa.out.grownBy hg9 (own_ne_blk hownA HGa.out (by decide))
      have hS9 : w9.heap[gp]? = wa.heap[gp]? := ((Blk.grownBy (hS.trans HPE.out) hg9 (own_ne_blk hownA (hS.trans HPE.out) (by decide))).trans HPE.out.symm)
      have HW9 := Lib.hid (HWa.out.trans hb9)
      have HG9 := Lib.hid hG9
      have HO9 : Hid (w9.ownsRow w.heap.size 9 1 v9 (k + 1 + 4) (sts (RW.take (k + 1 + 4)))) := Lib.hid (by
        rw [show k + 1 + 4 = k + 4 + 1 by omega, HTK.out]
        unfold sts at own9 ⊢
        rw [List.map_append]
        rw [HLN.out] at own9
        exact own9)
      clear hg9 hb9 hG9 own9 hnew hownA
      refine hK _ _ ⟨hS9, ?_⟩
      clear hK K
      refine takeD (i := 11) (d := (some 5)) (v := ?_) rfl rfl (by kernel_rfl) (by decide +kernel) (by decide +kernel) (fun _ _ _ h => h) (Or.inl ⟨by first | kernel_rfl | rfl, ?_⟩) hS9 ?_
      rotate_left
      · intro w' hT; first | (go_simp; done) | (go_simp; with_reducible rfl)
      refine wpAnyH_done (by decide +kernel) ?_ _
      clear hS9 hS HGa HWa hgA e0 e1 n1 n2 HD1 HD2
      go_wp2_with fail
      go_roundw
      case rel => exact ⟨k + 1, HLT.out, by have := HLT.out; go_num, HO9, HG9, HW9⟩
      case measure => have := HLT.out; simp [intOf]; omega
    · obtain rfl : k = l.length := by omega
      have e10 : ((⟨#[10]⟩ : ByteArray).data.toList) = [10] := rfl
      have htk : RW.take (l.length + 4) = RW := List.take_of_length_le (by rw [HRL.out]; exact Nat.le_refl _)
      have hjl : (Lib.join RW [10]).length + 1 = FR.length := by
        have := congrArg List.length HJR.out
        rw [List.length_append] at this
        simpa using this
      have HJ := Lib.hid (join_own ⟨#[10]⟩ wo HO.out (by rw [htk, HRL.out]) (by omega) (by omega) (by rw [htk, e10]; omega))
      rw [e10, htk] at HJ
      have hjF : (⟨(Lib.join RW [10]).toArray⟩ ++ ⟨#[10]⟩ : ByteArray) = ⟨FR.toArray⟩ := by
        apply ByteArray.ext
        rw [← HJR.out]
        simp [ByteArray.data_append]
      have hjl2 : ¬ 9223372036854775807 < (Lib.join RW [10]).length + 1 := by omega
      clear e10 htk hjl
      generalize Lib.join RW [10] = J at *
      go_wp2_with fail
      refine HJ.out.mono ?_
      rintro e W8 ⟨rfl, hb8⟩
      have HB8 := Lib.hid (HW.out.trans (hb8.mono HW.out.size))
      have HE8 := Lib.hid (HE.out.below HB8.out)
      clear hb8 HJ
      go_wp2_with fail
      refine (HSM.out _ HE8.out).mono ?_
      rintro e W9 ⟨rfl, hb9⟩
      have HB9 := Lib.hid (HB8.out.trans (hb9.mono HB8.out.size))
      clear hb9
      go_wp2_with fail
      go_ret2
      refine ⟨?_, HB9.out⟩
      rw [HTX.out]
      rw [Tx.byt_back]
      rfl
end Go.Proofs.YthabpgclnbmnpaaGreatDoor
