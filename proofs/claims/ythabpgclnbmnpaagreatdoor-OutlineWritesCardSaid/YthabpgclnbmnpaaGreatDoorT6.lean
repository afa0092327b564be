/- The document's lines in front of the sum. -/
import Derived.Test.YthabpgclnbmnpaaGreatDoorT5
import Derived.Test.YthabpgclnbmnpaaGreatDoorA2
import Derived.Test.YthabpgclnbmnpaaGreatDoorL5
import Derived.OrdersHeld
import Derived.Deep.RegionHeld
namespace Go.Proofs.YthabpgclnbmnpaaGreatDoor
open Go.RowKit Go.Shelf Go.Sort

theorem wpOp_goE {P : Program} {ops : Array Oper} {Q : Exit → Act → World → Prop} {i : Nat} {o : Oper} {K : Act → World → Prop} {a : Act} {w : World} (ho : ops[i]? = some o) (hw : Region.wanted o (yielded ops a.tmps) = true)
    (h : ∀ K' : Act → World → Prop, (∀ a w, K a w → K' a w) → Oper.wp P o a w K' Q) : wpOp P ops Q i K a w :=
  wpOp_step ho fun K' hK => by rw [if_pos hw]; exact h K' hK
/-- number i first, its slot by its number -/
theorem takeD {P : Program} {md : Region.Mode} {ops : Array Oper} {Q : Exit → Act → World → Prop} {S : World → Prop} {i : Nat} {oi : Oper} {d : Option Tmp} {v : Value} {fuel : Nat} {listed : Array Bool} {a : Act} {w : World} (hi : ops[i]? = some oi) (hd : oi.dst = d)
    (hs : Region.noSelect ops = true) (hf : Region.free md ops listed i = true) (hr : (Region.ready md ops listed).contains i = true)
    (hQ : ∀ c a w, Q (.panic c) (a.put d v) w → Q (.panic c) a w) (hy : YieldsIf P ops S oi v a) (hS : S w)
    (h : wpAnyH P md ops Q S fuel (listed.setIfInBounds i true) (a.put d v) w) : wpAnyH P md ops Q S (fuel + 1) listed a w := by
  subst hd
  exact wpAnyH_take hi hs hf hr hQ hy hS h
/-- the slots, brought to one form -/
theorem actNorm {P : Program} {md : Region.Mode} {ops : Array Oper} {Q : Exit → Act → World → Prop} {S : World → Prop} {fuel : Nat} {listed : Array Bool} {a : Act} {w : World} (h : ∀ a', a = a' → wpAnyH P md ops Q S fuel listed a' w) : wpAnyH P md ops Q S fuel listed a w := h a rfl
theorem conv_blk {W : World} {g : Nat} {b : UInt8} (h : Blk W g 5 #[.int .u8 b.toNat]) : (convert 36 9 (.slice (some ⟨g, 0, none⟩) 1 1)).run Tryz.prog W = .ok (.string ⟨[b].toArray⟩) W := by
  have h := run_convert_bytes_arg (P := Tryz.prog) W 36 5 Tryz.underlying36 Tryz.underlying5 g 0 1 1 [(b.toNat : Int)] rfl (fun i hi => by
    obtain rfl : i = 0 := by omega
    rw [h.cell]; rfl) 9 Tryz.underlying9
  rw [h, num_one]
theorem bsz_append (a b : ByteArray) : (a ++ b).size = a.size + b.size := ByteArray.size_append
theorem front_head (j : ByteArray) (b : UInt8) (l : List Geo.XY) : Tx.front (Tx.byt j) b l = Tx.byt (⟨#[84, 82, 65, 67, 69, 32, 49, 10, 74, 79, 66, 32]⟩ ++ j ++ ⟨#[10, 83, 73, 68, 69, 32]⟩ ++ ⟨[b].toArray⟩ ++ ⟨#[10, 80, 79, 73, 78, 84, 83, 32]⟩ ++ ⟨(Tx.dgs l.length).toArray⟩ ++ ⟨#[10]⟩) ++ Tx.flat10 (l.map Tx.rowP) := by
  unfold Tx.front Tx.rows Tx.flat10 Tx.byt
  simp [ByteArray.data_append]
theorem rows_more (l : List Geo.XY) (k : Nat) (h : k < l.length) : Tx.flat10 ((l.take (k + 1)).map Tx.rowP) = Tx.flat10 ((l.take k).map Tx.rowP) ++ (Tx.rowP (Geo.X l k) ++ [10]) := by
  rw [List.take_succ_eq_append_getElem h]
  have hx : Geo.X l k = l[k] := by unfold Geo.X; simp [h]
  unfold Tx.flat10
  rw [List.map_append, List.flatMap_append, hx]
  simp
theorem dcm_len (z : Int) (h : -100000000 ≤ z ∧ z ≤ 100000000) : (Tx.dcm z).length ≤ 13 := by
  unfold Tx.dcm
  split
  · have := Tx.dgs_len (-z).toNat 12 (by decide) (by omega)
    simp; omega
  · have := Tx.dgs_len z.toNat 12 (by decide) (by omega)
    omega
theorem in_small {p : Geo.XY} (h : Geo.In p) : (-100000000 ≤ p.1 ∧ p.1 ≤ 100000000) ∧ (-100000000 ≤ p.2 ∧ p.2 ≤ 100000000) := by
  unfold Geo.In at h
  omega
theorem rows_len : ∀ (l : List Geo.XY), (∀ p, p ∈ l → Geo.In p) → (Tx.flat10 (l.map Tx.rowP)).length ≤ 28 * l.length
  | [], _ => by simp [Tx.flat10]
  | p :: l, h => by
    have ih := rows_len l (fun q hq => h q (by simp [hq]))
    have hp := in_small (h p (by simp))
    have h1 := dcm_len _ hp.1
    have h2 := dcm_len _ hp.2
    unfold Tx.flat10 at ih ⊢
    rw [List.map_cons, List.flatMap_cons, List.length_append, List.length_append]
    unfold Tx.rowP at ih ⊢
    rw [List.length_append, List.length_cons, List.length_cons]
    simp only [List.length_cons, List.length_nil] at *
    omega
theorem front_len (j : List UInt8) (b : UInt8) (l : List Geo.XY) (hj : j.length ≤ 12) (hl : l.length ≤ 64) (hA : AllIn l) : (Tx.front j b l).length ≤ 1900 := by
  have h1 := rows_len l (fun p hp => by
    obtain ⟨k, hk, rfl⟩ := List.mem_iff_getElem.1 hp
    have := hA k hk
    unfold Geo.X at this
    simpa [hk] using this)
  have h2 := Tx.dgs_len l.length 12 (by decide) (by omega)
  unfold Tx.front Tx.rows
  unfold Tx.flat10 at h1 ⊢
  simp only [List.flatMap_cons, List.length_append, List.length_cons, List.length_nil]
  omega
set_option maxRecDepth 100000 in
set_option maxHeartbeats 4000000 in
theorem rfront_any (j : ByteArray) (hj : j.size ≤ 12) (b : UInt8) (A : Option Addr) (l : List Geo.XY) (c : Nat) (h0 : 0 < l.length) (hl : l.length ≤ 64) (w : World) (hP : Pts w A l) (hA : AllIn l) :
    Calls Tryz.prog 20 #[.agg #[.string j, .int .u8 b.toNat, .slice A l.length c]] w fun e w' => e = .returned (.string ⟨(Tx.front (Tx.byt j) b l).toArray⟩) ∧ Below w.heap.size w w' := by
  obtain ⟨TX, hTX⟩ : ∃ TX, Tx.front (Tx.byt j) b l = TX := ⟨_, rfl⟩
  rw [hTX]
  have HE := Lib.hid ((front_head j b l).symm.trans hTX)
  have hB := (Below.refl w.heap.size w).alloc (Nat.le_refl _) (.cells #[.string j, .int .u8 b.toNat, .slice A l.length c] 24)
  have bF := Blk.new w 24 #[.string j, .int .u8 b.toNat, .slice A l.length c]
  have HD := Lib.hid (decimal_nat l.length (by omega))
  have hdl : (⟨(Tx.dgs l.length).toArray⟩ : ByteArray).size ≤ 12 := by rw [bsz]; exact Tx.dgs_len _ 12 (by decide) (by omega)
  generalize hdd : (⟨(Tx.dgs l.length).toArray⟩ : ByteArray) = dd at *
  have k1 : ¬ 9223372036854775807 < 12 + j.size := by omega
  have k2 : ¬ 9223372036854775807 < 12 + j.size + 6 := by omega
  have k3 : ¬ 9223372036854775807 < 12 + j.size + 6 + 1 := by omega
  have k4 : ¬ 9223372036854775807 < 12 + j.size + 6 + 1 + 8 := by omega
  have k5 : ¬ 9223372036854775807 < 12 + j.size + 6 + 1 + 8 + dd.size := by omega
  have k6 : ¬ 9223372036854775807 < 12 + j.size + 6 + 1 + 8 + dd.size + 1 := by omega
  have HP := Lib.hid hP
  have HA := Lib.hid hA
  have hFl := bF.lt
  have HB := Lib.hid hB
  have HFB := Lib.hid bF
  have z0 := fun s : Ext (w.alloc (.cells #[.string j, .int .u8 b.toNat, .slice A l.length c] 24)) => s.cell (p := ⟨w.heap.size, 0, none⟩) (bF.cell 0)
  have z1 := fun s : Ext (w.alloc (.cells #[.string j, .int .u8 b.toNat, .slice A l.length c] 24)) => s.cell (p := ⟨w.heap.size, 1, none⟩) (bF.cell 1)
  have z2 := fun s : Ext (w.alloc (.cells #[.string j, .int .u8 b.toNat, .slice A l.length c] 24)) => s.cell (p := ⟨w.heap.size, 2, none⟩) (bF.cell 2)
  have H0 := Lib.hid h0
  clear hP hA hTX bF hB hdd h0
  go_enter Tryz.func20, Tryz.ntmps20
  go_wp2_with fail
  generalize w.alloc (.cells #[.string j, .int .u8 b.toNat, .slice A l.length c] 24) = W at *
  refine Code.wp_mono (Q := fun e' a' w' => e' = .normal ∧ ∃ (y6 y7 y8 y9 y10 y11 y12 y13 y14 y15 y16 y17 y18 y19 y20 y21 : Value), a' = { tmps := #[.agg #[.string j, .int .u8 b.toNat, .slice A l.length c], .pointer (some ⟨w.heap.size, 0, none⟩), .string ⟨#[]⟩, .string (⟨#[84, 82, 65, 67, 69, 32, 49, 10, 74, 79, 66, 32]⟩ ++ j ++ ⟨#[10, 83, 73, 68, 69, 32]⟩ ++ ⟨[b].toArray⟩ ++ ⟨#[10, 80, 79, 73, 78, 84, 83, 32]⟩ ++ dd ++ ⟨#[10]⟩), undef, undef, y6, y7, y8, y9, y10, y11, y12, y13, y14, y15, y16, y17, y18, y19, y20, y21, undef, undef, undef, undef, undef, undef, undef, undef, undef, undef, undef, undef, undef, undef, undef, undef, undef, undef, undef, undef], defers := [] } ∧ Below W.heap.size W w') ?goon ?region
  case region =>
    refine wp_region_held (S := fun V9 => ∃ s : Ext W, V9 = s.w) (by kernel_rfl) ?_
    change wpAnyH _ _ _ _ _ _ _ _ (World.drew _)
    have hS : ∃ s : Ext W, (World.drew W) = s.w := ⟨⟨_, (Below.refl _ _).drew⟩, rfl⟩
    generalize World.drew W = Wd at *
    refine takeD (i := 0) (d := (some 6)) (v := ?_) rfl rfl (by kernel_rfl) (by decide +kernel) (by decide +kernel) (fun _ _ _ h => by cases h.1) (Or.inl ⟨by first | kernel_rfl | rfl, ?_⟩) hS ?_
    rotate_left
    · intro w' hT; obtain ⟨s, rfl⟩ := hT; have p0 := z0 s; have p1 := z1 s; have p2 := z2 s; first | (go_simp; done) | (go_simp; with_reducible rfl)
    refine takeD (i := 1) (d := (some 7)) (v := ?_) rfl rfl (by kernel_rfl) (by decide +kernel) (by decide +kernel) (fun _ _ _ h => by cases h.1) (Or.inl ⟨by first | kernel_rfl | rfl, ?_⟩) hS ?_
    rotate_left
    · intro w' hT; obtain ⟨s, rfl⟩ := hT; have p0 := z0 s; have p1 := z1 s; have p2 := z2 s; first | (go_simp; done) | (go_simp; with_reducible rfl)
    refine takeD (i := 2) (d := (some 8)) (v := ?_) rfl rfl (by kernel_rfl) (by decide +kernel) (by decide +kernel) (fun _ _ _ h => by cases h.1) (Or.inl ⟨by first | kernel_rfl | rfl, ?_⟩) hS ?_
    rotate_left
    · intro w' hT; obtain ⟨s, rfl⟩ := hT; have p0 := z0 s; have p1 := z1 s; have p2 := z2 s; first | (go_simp; done) | (go_simp; with_reducible rfl)
    refine takeD (i := 3) (d := (some 9)) (v := ?_) rfl rfl (by kernel_rfl) (by decide +kernel) (by decide +kernel) (fun _ _ _ h => by cases h.1) (Or.inl ⟨by first | kernel_rfl | rfl, ?_⟩) hS ?_
    rotate_left
    · intro w' hT; obtain ⟨s, rfl⟩ := hT; have p0 := z0 s; have p1 := z1 s; have p2 := z2 s; first | (go_simp; done) | (go_simp; with_reducible rfl)
    refine takeD (i := 4) (d := (some 10)) (v := ?_) rfl rfl (by kernel_rfl) (by decide +kernel) (by decide +kernel) (fun _ _ _ h => by cases h.1) (Or.inl ⟨by first | kernel_rfl | rfl, ?_⟩) hS ?_
    rotate_left
    · intro w' hT; obtain ⟨s, rfl⟩ := hT; have p0 := z0 s; have p1 := z1 s; have p2 := z2 s; first | (go_simp; done) | (go_simp; with_reducible rfl)
    refine takeD (i := 5) (d := (some 11)) (v := ?_) rfl rfl (by kernel_rfl) (by decide +kernel) (by decide +kernel) (fun _ _ _ h => by cases h.1) (Or.inl ⟨by first | kernel_rfl | rfl, ?_⟩) hS ?_
    rotate_left
    · intro w' hT; obtain ⟨s, rfl⟩ := hT; have p0 := z0 s; have p1 := z1 s; have p2 := z2 s; first | (go_simp; done) | (go_simp; with_reducible rfl)
    refine takeD (i := 10) (d := (some 16)) (v := ?_) rfl rfl (by kernel_rfl) (by decide +kernel) (by decide +kernel) (fun _ _ _ h => by cases h.1) (Or.inl ⟨by first | kernel_rfl | rfl, ?_⟩) hS ?_
    rotate_left
    · intro w' hT; obtain ⟨s, rfl⟩ := hT; have p0 := z0 s; have p1 := z1 s; have p2 := z2 s; first | (go_simp; done) | (go_simp; with_reducible rfl)
    refine takeD (i := 11) (d := (some 17)) (v := ?_) rfl rfl (by kernel_rfl) (by decide +kernel) (by decide +kernel) (fun _ _ _ h => by cases h.1) (Or.inl ⟨by first | kernel_rfl | rfl, ?_⟩) hS ?_
    rotate_left
    · intro w' hT; obtain ⟨s, rfl⟩ := hT; have p0 := z0 s; have p1 := z1 s; have p2 := z2 s; first | (go_simp; done) | (go_simp; with_reducible rfl)
    refine takeD (i := 12) (d := (some 18)) (v := ?_) rfl rfl (by kernel_rfl) (by decide +kernel) (by decide +kernel) (fun _ _ _ h => by cases h.1) (Or.inl ⟨by first | kernel_rfl | rfl, ?_⟩) hS ?_
    rotate_left
    · intro w' hT; obtain ⟨s, rfl⟩ := hT; have p0 := z0 s; have p1 := z1 s; have p2 := z2 s; first | (go_simp; done) | (go_simp; with_reducible rfl)
    refine actNorm (fun a' ha => ?_); (try simp [go_sem] at ha); subst ha
    refine wpAnyH_all (rs := [6, 13]) (by decide +kernel) (by simp) ?_
    intro i0 hi0
    obtain rfl | rfl : i0 = 6 ∨ i0 = 13 := by simpa using hi0
    clear hi0
    ·
      refine wpOp_goE rfl (by kernel_rfl) (fun K hK => ?_)
      go_simp
      obtain ⟨s0, hs0⟩ := hS
      have hs1 : Below W.heap.size W Wd := by rw [hs0]; exact s0.h
      have hS : ∃ s : Ext W, Wd.alloc (.cells #[.int .u8 b.toNat] 5) = s.w := ⟨⟨_, hs1.alloc hs1.size _⟩, rfl⟩
      have bK := Blk.new Wd 5 #[.int .u8 b.toNat]
      clear hs1 hs0 s0
      refine hK _ _ ⟨hS, ?_⟩
      clear hK K
      generalize Wd.alloc (.cells #[.int .u8 b.toNat] 5) = wa1 at *
      generalize Wd.heap.size = gK at *
      refine actNorm (fun a' ha => ?_); (try simp [go_sem] at ha); subst ha
      refine wpAnyH_all (rs := [7, 13]) (by decide +kernel) (by simp) ?_
      intro i0 hi0
      obtain rfl | rfl : i0 = 7 ∨ i0 = 13 := by simpa using hi0
      clear hi0
      ·
        have hcv := conv_blk bK
        refine wpOp_goE rfl (by kernel_rfl) (fun K hK => ?_)
        go_simp
        clear hcv
        refine hK _ _ ⟨hS, ?_⟩
        clear hK K
        refine takeD (i := 8) (d := (some 14)) (v := ?_) rfl rfl (by kernel_rfl) (by decide +kernel) (by decide +kernel) (fun _ _ _ h => by cases h.1) (Or.inl ⟨by first | kernel_rfl | rfl, ?_⟩) hS ?_
        rotate_left
        · intro w' hT; obtain ⟨s, rfl⟩ := hT; first | (go_simp; done) | (go_simp; with_reducible rfl)
        refine takeD (i := 9) (d := (some 15)) (v := ?_) rfl rfl (by kernel_rfl) (by decide +kernel) (by decide +kernel) (fun _ _ _ h => by cases h.1) (Or.inl ⟨by first | kernel_rfl | rfl, ?_⟩) hS ?_
        rotate_left
        · intro w' hT; obtain ⟨s, rfl⟩ := hT; first | (go_simp; done) | (go_simp; with_reducible rfl)
        refine actNorm (fun a' ha => ?_); (try simp [go_sem] at ha); subst ha
        refine wpAnyH_all (rs := [13]) (by decide +kernel) (by simp) ?_
        intro i0 hi0
        have hi1 := List.mem_singleton.1 hi0
        clear hi0
        subst hi1
        refine wpOp_goE rfl (by kernel_rfl) (fun K hK => ?_)
        go_simp
        refine (HD.out _).mono ?_
        rintro e W3 ⟨rfl, hb1⟩
        obtain ⟨s0, hs0⟩ := hS
        have hs1 : Below W.heap.size W wa1 := by rw [hs0]; exact s0.h
        have hS : ∃ s : Ext W, W3 = s.w := ⟨⟨_, hs1.trans (hb1.mono hs1.size)⟩, rfl⟩
        have bK := bK.below hb1 bK.lt
        clear hs1 hs0 s0 hb1
        refine hK _ _ ⟨hS, ?_⟩
        clear hK K
        refine takeD (i := 14) (d := (some 20)) (v := ?_) rfl rfl (by kernel_rfl) (by decide +kernel) (by decide +kernel) (fun _ _ _ h => by cases h.1) (Or.inl ⟨by first | kernel_rfl | rfl, ?_⟩) hS ?_
        rotate_left
        · intro w' hT; obtain ⟨s, rfl⟩ := hT; first | (go_simp; done) | (go_simp; with_reducible rfl)
        refine takeD (i := 15) (d := (some 21)) (v := ?_) rfl rfl (by kernel_rfl) (by decide +kernel) (by decide +kernel) (fun _ _ _ h => by cases h.1) (Or.inl ⟨by first | kernel_rfl | rfl, ?_⟩) hS ?_
        rotate_left
        · intro w' hT; obtain ⟨s, rfl⟩ := hT; first | (go_simp; done) | (go_simp; with_reducible rfl)
        refine takeD (i := 16) (d := (some 3)) (v := ?_) rfl rfl (by kernel_rfl) (by decide +kernel) (by decide +kernel) (fun _ _ _ h => by cases h.1) (Or.inl ⟨by first | kernel_rfl | rfl, ?_⟩) hS ?_
        rotate_left
        · intro w' hT; obtain ⟨s, rfl⟩ := hT; first | (go_simp; done) | (go_simp; with_reducible rfl)
        refine actNorm (fun a' ha => ?_); (try simp [go_sem] at ha); subst ha
        refine wpAnyH_done (by decide +kernel) ?_ _
        obtain ⟨s0, hs0⟩ := hS
        exact ⟨rfl, _, _, _, _, _, _, _, _, _, _, _, _, _, _, _, _, rfl, by rw [hs0]; exact s0.h⟩
      ·
        refine wpOp_goE rfl (by kernel_rfl) (fun K hK => ?_)
        go_simp
        refine (HD.out _).mono ?_
        rintro e W4 ⟨rfl, hb1⟩
        obtain ⟨s0, hs0⟩ := hS
        have hs1 : Below W.heap.size W wa1 := by rw [hs0]; exact s0.h
        have hS : ∃ s : Ext W, W4 = s.w := ⟨⟨_, hs1.trans (hb1.mono hs1.size)⟩, rfl⟩
        have bK := bK.below hb1 bK.lt
        clear hs1 hs0 s0 hb1
        refine hK _ _ ⟨hS, ?_⟩
        clear hK K
        refine wpAnyH_all (rs := [7]) (by decide +kernel) (by simp) ?_
        intro i0 hi0
        have hi1 := List.mem_singleton.1 hi0
        clear hi0
        subst hi1
        have hcv := conv_blk bK
        refine wpOp_goE rfl (by kernel_rfl) (fun K hK => ?_)
        go_simp
        clear hcv
        refine hK _ _ ⟨hS, ?_⟩
        clear hK K
        refine takeD (i := 8) (d := (some 14)) (v := ?_) rfl rfl (by kernel_rfl) (by decide +kernel) (by decide +kernel) (fun _ _ _ h => by cases h.1) (Or.inl ⟨by first | kernel_rfl | rfl, ?_⟩) hS ?_
        rotate_left
        · intro w' hT; obtain ⟨s, rfl⟩ := hT; first | (go_simp; done) | (go_simp; with_reducible rfl)
        refine takeD (i := 9) (d := (some 15)) (v := ?_) rfl rfl (by kernel_rfl) (by decide +kernel) (by decide +kernel) (fun _ _ _ h => by cases h.1) (Or.inl ⟨by first | kernel_rfl | rfl, ?_⟩) hS ?_
        rotate_left
        · intro w' hT; obtain ⟨s, rfl⟩ := hT; first | (go_simp; done) | (go_simp; with_reducible rfl)
        refine actNorm (fun a' ha => ?_); (try simp [go_sem] at ha); subst ha
        refine takeD (i := 14) (d := (some 20)) (v := ?_) rfl rfl (by kernel_rfl) (by decide +kernel) (by decide +kernel) (fun _ _ _ h => by cases h.1) (Or.inl ⟨by first | kernel_rfl | rfl, ?_⟩) hS ?_
        rotate_left
        · intro w' hT; obtain ⟨s, rfl⟩ := hT; first | (go_simp; done) | (go_simp; with_reducible rfl)
        refine takeD (i := 15) (d := (some 21)) (v := ?_) rfl rfl (by kernel_rfl) (by decide +kernel) (by decide +kernel) (fun _ _ _ h => by cases h.1) (Or.inl ⟨by first | kernel_rfl | rfl, ?_⟩) hS ?_
        rotate_left
        · intro w' hT; obtain ⟨s, rfl⟩ := hT; first | (go_simp; done) | (go_simp; with_reducible rfl)
        refine takeD (i := 16) (d := (some 3)) (v := ?_) rfl rfl (by kernel_rfl) (by decide +kernel) (by decide +kernel) (fun _ _ _ h => by cases h.1) (Or.inl ⟨by first | kernel_rfl | rfl, ?_⟩) hS ?_
        rotate_left
        · intro w' hT; obtain ⟨s, rfl⟩ := hT; first | (go_simp; done) | (go_simp; with_reducible rfl)
        refine actNorm (fun a' ha => ?_); (try simp [go_sem] at ha); subst ha
        refine wpAnyH_done (by decide +kernel) ?_ _
        obtain ⟨s0, hs0⟩ := hS
        exact ⟨rfl, _, _, _, _, _, _, _, _, _, _, _, _, _, _, _, _, rfl, by rw [hs0]; exact s0.h⟩
    ·
      refine wpOp_goE rfl (by kernel_rfl) (fun K hK => ?_)
      go_simp
      refine (HD.out _).mono ?_
      rintro e W6 ⟨rfl, hb1⟩
      obtain ⟨s0, hs0⟩ := hS
      have hs1 : Below W.heap.size W Wd := by rw [hs0]; exact s0.h
      have hS : ∃ s : Ext W, W6 = s.w := ⟨⟨_, hs1.trans (hb1.mono hs1.size)⟩, rfl⟩
      clear hs1 hs0 s0 hb1
      refine hK _ _ ⟨hS, ?_⟩
      clear hK K
      refine wpAnyH_all (rs := [6]) (by decide +kernel) (by simp) ?_
      intro i0 hi0
      have hi1 := List.mem_singleton.1 hi0
      clear hi0
      subst hi1
      refine wpOp_goE rfl (by kernel_rfl) (fun K hK => ?_)
      go_simp
      obtain ⟨s0, hs0⟩ := hS
      have hs1 : Below W.heap.size W W6 := by rw [hs0]; exact s0.h
      have hS : ∃ s : Ext W, W6.alloc (.cells #[.int .u8 b.toNat] 5) = s.w := ⟨⟨_, hs1.alloc hs1.size _⟩, rfl⟩
      have bK := Blk.new W6 5 #[.int .u8 b.toNat]
      clear hs1 hs0 s0
      refine hK _ _ ⟨hS, ?_⟩
      clear hK K
      generalize W6.alloc (.cells #[.int .u8 b.toNat] 5) = wa7 at *
      generalize W6.heap.size = gK at *
      refine actNorm (fun a' ha => ?_); (try simp [go_sem] at ha); subst ha
      refine wpAnyH_all (rs := [7]) (by decide +kernel) (by simp) ?_
      intro i0 hi0
      have hi1 := List.mem_singleton.1 hi0
      clear hi0
      subst hi1
      have hcv := conv_blk bK
      refine wpOp_goE rfl (by kernel_rfl) (fun K hK => ?_)
      go_simp
      clear hcv
      refine hK _ _ ⟨hS, ?_⟩
      clear hK K
      refine takeD (i := 8) (d := (some 14)) (v := ?_) rfl rfl (by kernel_rfl) (by decide +kernel) (by decide +kernel) (fun _ _ _ h => by cases h.1) (Or.inl ⟨by first | kernel_rfl | rfl, ?_⟩) hS ?_
      rotate_left
      · intro w' hT; obtain ⟨s, rfl⟩ := hT; first | (go_simp; done) | (go_simp; with_reducible rfl)
      refine takeD (i := 9) (d := (some 15)) (v := ?_) rfl rfl (by kernel_rfl) (by decide +kernel) (by decide +kernel) (fun _ _ _ h => by cases h.1) (Or.inl ⟨by first | kernel_rfl | rfl, ?_⟩) hS ?_
      rotate_left
      · intro w' hT; obtain ⟨s, rfl⟩ := hT; first | (go_simp; done) | (go_simp; with_reducible rfl)
      refine actNorm (fun a' ha => ?_); (try simp [go_sem] at ha); subst ha
      refine takeD (i := 14) (d := (some 20)) (v := ?_) rfl rfl (by kernel_rfl) (by decide +kernel) (by decide +kernel) (fun _ _ _ h => by cases h.1) (Or.inl ⟨by first | kernel_rfl | rfl, ?_⟩) hS ?_
      rotate_left
      · intro w' hT; obtain ⟨s, rfl⟩ := hT; first | (go_simp; done) | (go_simp; with_reducible rfl)
      refine takeD (i := 15) (d := (some 21)) (v := ?_) rfl rfl (by kernel_rfl) (by decide +kernel) (by decide +kernel) (fun _ _ _ h => by cases h.1) (Or.inl ⟨by first | kernel_rfl | rfl, ?_⟩) hS ?_
      rotate_left
      · intro w' hT; obtain ⟨s, rfl⟩ := hT; first | (go_simp; done) | (go_simp; with_reducible rfl)
      refine takeD (i := 16) (d := (some 3)) (v := ?_) rfl rfl (by kernel_rfl) (by decide +kernel) (by decide +kernel) (fun _ _ _ h => by cases h.1) (Or.inl ⟨by first | kernel_rfl | rfl, ?_⟩) hS ?_
      rotate_left
      · intro w' hT; obtain ⟨s, rfl⟩ := hT; first | (go_simp; done) | (go_simp; with_reducible rfl)
      refine actNorm (fun a' ha => ?_); (try simp [go_sem] at ha); subst ha
      refine wpAnyH_done (by decide +kernel) ?_ _
      obtain ⟨s0, hs0⟩ := hS
      exact ⟨rfl, _, _, _, _, _, _, _, _, _, _, _, _, _, _, _, _, rfl, by rw [hs0]; exact s0.h⟩
  case goon =>
    rintro e' a' w1 ⟨rfl, y6, y7, y8, y9, y10, y11, y12, y13, y14, y15, y16, y17, y18, y19, y20, y21, rfl, hb1⟩
    have HB1 := Lib.hid (HB.out.trans (hb1.mono HB.out.size))
    have bF1 := HFB.out.below hb1 hFl
    have p2 : w1.cell? ⟨w.heap.size, 2, none⟩ = some (.slice A l.length c) := bF1.cell 2
    have HS0 : Hid (Tx.byt (⟨#[84, 82, 65, 67, 69, 32, 49, 10, 74, 79, 66, 32]⟩ ++ j ++ ⟨#[10, 83, 73, 68, 69, 32]⟩ ++ ⟨[b].toArray⟩ ++ ⟨#[10, 80, 79, 73, 78, 84, 83, 32]⟩ ++ dd ++ ⟨#[10]⟩) ++ Tx.flat10 (l.map Tx.rowP) = TX ∧ (⟨#[84, 82, 65, 67, 69, 32, 49, 10, 74, 79, 66, 32]⟩ ++ j ++ ⟨#[10, 83, 73, 68, 69, 32]⟩ ++ ⟨[b].toArray⟩ ++ ⟨#[10, 80, 79, 73, 78, 84, 83, 32]⟩ ++ dd ++ ⟨#[10]⟩).size ≤ 60) := Lib.hid ⟨HE.out, by simp [ByteArray.size_append, ByteArray.size_mk']; omega⟩
    clear z0 z1 z2 k1 k2 k3 k4 k5 k6 HD HFB hb1 bF1 HE hFl
    generalize (⟨#[84, 82, 65, 67, 69, 32, 49, 10, 74, 79, 66, 32]⟩ ++ j ++ ⟨#[10, 83, 73, 68, 69, 32]⟩ ++ ⟨[b].toArray⟩ ++ ⟨#[10, 80, 79, 73, 78, 84, 83, 32]⟩ ++ dd ++ ⟨#[10]⟩) = S0 at *
    obtain ⟨bb, off, rfl, hbb, hcc⟩ := pts_open HP.out H0.out
    have HCC := Lib.hid hcc
    clear hcc HP
    go_wp2_with fail
    go_loopw [3, 5, 25] (fun sv _ i wr => ∃ (k : Nat) (S : ByteArray), k ≤ l.length ∧ i = .int .i64 k ∧ sv = .string S ∧ Hid (Tx.byt S = Tx.byt S0 ++ Tx.flat10 ((l.take k).map Tx.rowP)) ∧ Hid (S.size ≤ 60 + 40 * k) ∧ Hid (Below w.heap.size w wr)) (fun _ _ i _ => l.length - (intOf i).toNat)
    case atStart => exact ⟨0, S0, Nat.zero_le _, rfl, rfl, Lib.hid (by simp [Tx.flat10]), Lib.hid HS0.out.2, HB1⟩
    case round =>
      obtain ⟨k, S, hk, rfl, rfl, HS, HZ, HW⟩ := hrel
      obtain ⟨wo, rfl⟩ : ∃ wo, wo = wr := ⟨_, rfl⟩
      by_cases hlt : k < l.length
      · have hltI : (k : Int) < (l.length : Int) := by omega
        have HLT := Lib.hid hlt
        have c1 : wo.cell? ⟨bb, off + k * 2, none⟩ = some (.int .i64 (Geo.X l k).1) := (HW.out.cell (p := ⟨bb, off + k * 2, none⟩) hbb).trans (HCC.out k hlt).1
        have c2 : wo.cell? ⟨bb, off + k * 2 + 1, none⟩ = some (.int .i64 (Geo.X l k).2) := (HW.out.cell (p := ⟨bb, off + k * 2 + 1, none⟩) hbb).trans (HCC.out k hlt).2
        have HTK := Lib.hid (rows_more l k hlt)
        have hin := in_small (HA.out k hlt)
        generalize Geo.X l k = x at *
        have bE := Blk.new wo 42 #[.int .i64 x.1, .int .i64 x.2]
        have HBE := Lib.hid ((Below.refl wo.heap.size wo).alloc (Nat.le_refl _) (.cells #[.int .i64 x.1, .int .i64 x.2] 42))
        have f0 := fun s : Ext (wo.alloc (.cells #[.int .i64 x.1, .int .i64 x.2] 42)) => s.cell (p := ⟨wo.heap.size, 0, none⟩) (bE.cell 0)
        have f1 := fun s : Ext (wo.alloc (.cells #[.int .i64 x.1, .int .i64 x.2] 42)) => s.cell (p := ⟨wo.heap.size, 1, none⟩) (bE.cell 1)
        have HD1 := Lib.hid (decimal_any x.1 hin.1)
        have HD2 := Lib.hid (decimal_any x.2 hin.2)
        have hd1 : (⟨(Tx.dcm x.1).toArray⟩ : ByteArray).size ≤ 13 := by rw [bsz]; exact dcm_len _ hin.1
        have hd2 : (⟨(Tx.dcm x.2).toArray⟩ : ByteArray).size ≤ 13 := by rw [bsz]; exact dcm_len _ hin.2
        have HLN : Hid (Tx.byt (S ++ (⟨(Tx.dcm x.1).toArray⟩ ++ ⟨#[32]⟩ ++ ⟨(Tx.dcm x.2).toArray⟩ ++ ⟨#[10]⟩)) = Tx.byt S ++ (Tx.rowP x ++ [10])) := Lib.hid (by
          unfold Tx.rowP Tx.byt
          simp [ByteArray.data_append])
        generalize (⟨(Tx.dcm x.1).toArray⟩ : ByteArray) = d1 at *
        generalize (⟨(Tx.dcm x.2).toArray⟩ : ByteArray) = d2 at *
        have hSL := HZ.out
        have k1 : ¬ 9223372036854775807 < d1.size + 1 := by omega
        have k2 : ¬ 9223372036854775807 < d1.size + 1 + d2.size := by omega
        have k3 : ¬ 9223372036854775807 < d1.size + 1 + d2.size + 1 := by omega
        have k4 : ¬ 9223372036854775807 < S.size + (d1.size + 1 + d2.size + 1) := by omega
        have HZ2 : Hid ((S ++ (d1 ++ ⟨#[32]⟩ ++ d2 ++ ⟨#[10]⟩)).size ≤ 60 + 40 * (k + 1)) := Lib.hid (by simp [ByteArray.size_append, ByteArray.size_mk']; omega)
        clear hin hd1 hd2 hSL hlt bE
        go_wp2_with fail
        generalize wo.alloc (.cells #[.int .i64 x.1, .int .i64 x.2] 42) = wa at *
        refine wp_region_ext (by kernel_rfl) (by kernel_rfl) ?_
        iterate 5 (go_big_quiet_step (first | (go_at_call 41; refine calls_ext (HD1.out _))))
        repeat (go_big_quiet_step (first | (go_at_call 41; refine calls_ext (HD2.out _))))
        refine wpQuiet_nil ?_
        rintro _ ⟨s, rfl⟩
        have HB3 := Lib.hid (HW.out.trans ((HBE.out.trans (s.h.mono HBE.out.size)).mono HW.out.size))
        clear f0 f1 k1 k2 k3 k4 HD1 HD2 HBE
        generalize s.w = w3 at *
        clear s
        go_wp2_with fail
        go_roundw
        case rel => exact ⟨k + 1, _, HLT.out, by have := HLT.out; go_num, rfl, Lib.hid (by rw [HLN.out, HS.out, HTK.out, List.append_assoc]), HZ2, HB3⟩
        case measure => have := HLT.out; simp [intOf]; omega
      · obtain rfl : k = l.length := by omega
        have HF : Hid (S = ⟨TX.toArray⟩) := Lib.hid (by
          have h := HS.out
          rw [List.take_length, HS0.out.1] at h
          rw [← h, Tx.byt_back])
        go_wp2_with fail
        go_ret
        exact ⟨congrArg (fun x => Ending.returned (Value.string x)) HF.out, HW.out⟩
end Go.Proofs.YthabpgclnbmnpaaGreatDoor
