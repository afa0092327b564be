/- agreed, since; Compare, Agreed, Since of the program. -/
import Derived.Test.YtalfffkcmddakaaS3
import Derived.Test.YtalfffkcmddakaaE5
namespace Go.Proofs.Ytalfffkcmddakaa
open Go.RowKit Go.Shelf Go.Sort Go.Lib

/-- what the closures read: their entry, and the map in its box -/
structure CS (g : Nat) (x : Pl.En) (bl bm n : Nat) (S : List Pl.En) (W : World) : Prop where
  blk : Blk W g 24 (enA x)
  box : W.cell? ⟨bl, 0, none⟩ = some (.map (some bm))
  lt : bl < W.heap.size
  map : MapE W bm n S
theorem CS.below {g bl bm n : Nat} {x : Pl.En} {S : List Pl.En} {W W' : World} (h : CS g x bl bm n S W) (hb : Below W.heap.size W W') : CS g x bl bm n S W' :=
  ⟨h.blk.below hb h.blk.lt, (hb.cell (p := ⟨bl, 0, none⟩) h.lt).trans h.box, Nat.lt_of_lt_of_le h.lt hb.size, h.map.below hb⟩

set_option maxRecDepth 100000 in
set_option maxHeartbeats 4000000 in
theorem agreed1_b (x : Pl.En) (hx : OkN (Pl.nm x)) (bl bm n : Nat) (S : List Pl.En) (w : World) (hc : w.cell? ⟨bl, 0, none⟩ = some (.map (some bm))) (hM : MapE w bm n S) (v : Bool) (hv : decide (Pl.gt S (Pl.nm x) = x) = v) :
    Calls Try.prog 100 #[.agg (enA x), .pointer (some ⟨bl, 0, none⟩)] w fun e w' => e = .returned (.bool (!v)) ∧ Below w.heap.size w w' := by
  have hlt : bl < w.heap.size := by
    rcases Nat.lt_or_ge bl w.heap.size with h' | h'
    · exact h'
    · unfold World.cell? at hc; rw [Array.getElem?_eq_none h'] at hc; cases hc
  have hB := (Below.refl w.heap.size w).alloc (Nat.le_refl _) (.cells (enA x) 24)
  have hS0 : CS w.heap.size x bl bm n S (w.alloc (.cells (enA x) 24)) := ⟨Blk.new w 24 (enA x), (hB.cell (p := ⟨bl, 0, none⟩) hlt).trans hc, Nat.lt_of_lt_of_le hlt hB.size, hM.below hB⟩
  have HL : Hid (∀ W, MapE W bm n S → (Instr.lookup 70 (.map (some bm)) (.agg (nmA (Pl.nm x))) false).run Try.prog W = .ok (.agg (enA (Pl.gt S (Pl.nm x)))) W) := Lib.hid (fun W h => h.look hx)
  obtain ⟨M, hMM⟩ : ∃ M, Pl.gt S (Pl.nm x) = M := ⟨_, rfl⟩
  rw [hMM] at HL hv
  have heq := fun W => run_eqEn M x v hv W
  have HB := Lib.hid hB
  clear hc hM hv hMM hB
  go_enter Try.func100, Try.ntmps100
  go_wp2
  refine wp_region_held (S := CS w.heap.size x bl bm n S) (by kernel_rfl) ?_
  change wpAnyH _ _ _ _ _ _ _ _ (World.drew _)
  have hS := hS0.below (Below.refl _ _).drew
  have HBd : Hid (Below w.heap.size w (w.alloc (.cells (enA x) 24)).drew) := Lib.hid HB.out.drew
  clear hS0 HB
  generalize (w.alloc (.cells (enA x) 24)).drew = W0 at *
  refine wpAnyH_take (i := 0) (v := ?_) rfl (by kernel_rfl) (by decide +kernel) (by decide +kernel) (fun _ _ _ h => h) (Or.inl ⟨by rfl, ?_⟩) hS ?_
  rotate_left
  · intro w' hS; have l1 := HL.out w' hS.map; have lb := hS.box; have e0 := hS.blk.cell 0; have e1 := hS.blk.cell 1; have e2 := hS.blk.cell 2; have e3 := hS.blk.cell 3; first | (go_simp; done) | (go_simp; with_reducible rfl)
  refine wpAnyH_take (i := 1) (v := ?_) rfl (by kernel_rfl) (by decide +kernel) (by decide +kernel) (fun _ _ _ h => h) (Or.inl ⟨by rfl, ?_⟩) hS ?_
  rotate_left
  · intro w' hS; have l1 := HL.out w' hS.map; have lb := hS.box; have e0 := hS.blk.cell 0; have e1 := hS.blk.cell 1; have e2 := hS.blk.cell 2; have e3 := hS.blk.cell 3; first | (go_simp; done) | (go_simp; with_reducible rfl)
  refine wpAnyH_take (i := 4) (v := ?_) rfl (by kernel_rfl) (by decide +kernel) (by decide +kernel) (fun _ _ _ h => h) (Or.inl ⟨by rfl, ?_⟩) hS ?_
  rotate_left
  · intro w' hS; have l1 := HL.out w' hS.map; have lb := hS.box; have e0 := hS.blk.cell 0; have e1 := hS.blk.cell 1; have e2 := hS.blk.cell 2; have e3 := hS.blk.cell 3; first | (go_simp; done) | (go_simp; with_reducible rfl)
  refine wpAnyH_all (rs := [2]) (by decide +kernel) (by simp) ?_
  intro i0 hi0
  obtain rfl := List.mem_singleton.1 hi0
  refine wpOp_goE rfl rfl (fun K hK => ?_)
  go_simp
  refine (nameof_any x _).mono ?_
  rintro e9 W1 ⟨rfl, hb9⟩
  have hS1 := hS.below hb9
  have HB1 := Lib.hid (HBd.out.trans (hb9.mono HBd.out.size))
  refine hK _ _ ⟨hS1, ?_⟩
  clear hK K hb9 hS HBd
  refine wpAnyH_take (i := 3) (v := ?_) rfl (by kernel_rfl) (by decide +kernel) (by decide +kernel) (fun _ _ _ h => h) (Or.inl ⟨by rfl, ?_⟩) hS1 ?_
  rotate_left
  · intro w' hS; have l1 := HL.out w' hS.map; have lb := hS.box; have e0 := hS.blk.cell 0; have e1 := hS.blk.cell 1; have e2 := hS.blk.cell 2; have e3 := hS.blk.cell 3; first | (go_simp; done) | (go_simp; with_reducible rfl)
  refine wpAnyH_take (i := 5) (v := ?_) rfl (by kernel_rfl) (by decide +kernel) (by decide +kernel) (fun _ _ _ h => h) (Or.inl ⟨by rfl, ?_⟩) hS1 ?_
  rotate_left
  · intro w' hS; have l1 := HL.out w' hS.map; have lb := hS.box; have e0 := hS.blk.cell 0; have e1 := hS.blk.cell 1; have e2 := hS.blk.cell 2; have e3 := hS.blk.cell 3; first | (go_simp; done) | (go_simp; with_reducible rfl)
  refine wpAnyH_take (i := 6) (v := ?_) rfl (by kernel_rfl) (by decide +kernel) (by decide +kernel) (fun _ _ _ h => h) (Or.inl ⟨by rfl, ?_⟩) hS1 ?_
  rotate_left
  · intro w' hS; have l1 := HL.out w' hS.map; have lb := hS.box; have e0 := hS.blk.cell 0; have e1 := hS.blk.cell 1; have e2 := hS.blk.cell 2; have e3 := hS.blk.cell 3; first | (go_simp; done) | (go_simp; with_reducible rfl)
  refine wpAnyH_done (by decide +kernel) ?_ _
  clear hS1 HL heq
  go_wp2
  go_ret
  exact ⟨rfl, HB1.out⟩
set_option maxRecDepth 100000 in
set_option maxHeartbeats 4000000 in
theorem since1_b (x : Pl.En) (hx : OkN (Pl.nm x)) (bl bm n : Nat) (S : List Pl.En) (w : World) (hc : w.cell? ⟨bl, 0, none⟩ = some (.map (some bm))) (hM : MapE w bm n S) (v : Bool) (hv : decide (Pl.gt S (Pl.nm x) = x) = v) :
    Calls Try.prog 103 #[.agg (enA x), .pointer (some ⟨bl, 0, none⟩)] w fun e w' => e = .returned (.bool (v)) ∧ Below w.heap.size w w' := by
  have hlt : bl < w.heap.size := by
    rcases Nat.lt_or_ge bl w.heap.size with h' | h'
    · exact h'
    · unfold World.cell? at hc; rw [Array.getElem?_eq_none h'] at hc; cases hc
  have hB := (Below.refl w.heap.size w).alloc (Nat.le_refl _) (.cells (enA x) 24)
  have hS0 : CS w.heap.size x bl bm n S (w.alloc (.cells (enA x) 24)) := ⟨Blk.new w 24 (enA x), (hB.cell (p := ⟨bl, 0, none⟩) hlt).trans hc, Nat.lt_of_lt_of_le hlt hB.size, hM.below hB⟩
  have HL : Hid (∀ W, MapE W bm n S → (Instr.lookup 70 (.map (some bm)) (.agg (nmA (Pl.nm x))) false).run Try.prog W = .ok (.agg (enA (Pl.gt S (Pl.nm x)))) W) := Lib.hid (fun W h => h.look hx)
  obtain ⟨M, hMM⟩ : ∃ M, Pl.gt S (Pl.nm x) = M := ⟨_, rfl⟩
  rw [hMM] at HL hv
  have heq := fun W => run_eqEn M x v hv W
  have HB := Lib.hid hB
  clear hc hM hv hMM hB
  go_enter Try.func103, Try.ntmps103
  go_wp2
  refine wp_region_held (S := CS w.heap.size x bl bm n S) (by kernel_rfl) ?_
  change wpAnyH _ _ _ _ _ _ _ _ (World.drew _)
  have hS := hS0.below (Below.refl _ _).drew
  have HBd : Hid (Below w.heap.size w (w.alloc (.cells (enA x) 24)).drew) := Lib.hid HB.out.drew
  clear hS0 HB
  generalize (w.alloc (.cells (enA x) 24)).drew = W0 at *
  refine wpAnyH_take (i := 0) (v := ?_) rfl (by kernel_rfl) (by decide +kernel) (by decide +kernel) (fun _ _ _ h => h) (Or.inl ⟨by rfl, ?_⟩) hS ?_
  rotate_left
  · intro w' hS; have l1 := HL.out w' hS.map; have lb := hS.box; have e0 := hS.blk.cell 0; have e1 := hS.blk.cell 1; have e2 := hS.blk.cell 2; have e3 := hS.blk.cell 3; first | (go_simp; done) | (go_simp; with_reducible rfl)
  refine wpAnyH_take (i := 1) (v := ?_) rfl (by kernel_rfl) (by decide +kernel) (by decide +kernel) (fun _ _ _ h => h) (Or.inl ⟨by rfl, ?_⟩) hS ?_
  rotate_left
  · intro w' hS; have l1 := HL.out w' hS.map; have lb := hS.box; have e0 := hS.blk.cell 0; have e1 := hS.blk.cell 1; have e2 := hS.blk.cell 2; have e3 := hS.blk.cell 3; first | (go_simp; done) | (go_simp; with_reducible rfl)
  refine wpAnyH_take (i := 4) (v := ?_) rfl (by kernel_rfl) (by decide +kernel) (by decide +kernel) (fun _ _ _ h => h) (Or.inl ⟨by rfl, ?_⟩) hS ?_
  rotate_left
  · intro w' hS; have l1 := HL.out w' hS.map; have lb := hS.box; have e0 := hS.blk.cell 0; have e1 := hS.blk.cell 1; have e2 := hS.blk.cell 2; have e3 := hS.blk.cell 3; first | (go_simp; done) | (go_simp; with_reducible rfl)
  refine wpAnyH_all (rs := [2]) (by decide +kernel) (by simp) ?_
  intro i0 hi0
  obtain rfl := List.mem_singleton.1 hi0
  refine wpOp_goE rfl rfl (fun K hK => ?_)
  go_simp
  refine (nameof_any x _).mono ?_
  rintro e9 W1 ⟨rfl, hb9⟩
  have hS1 := hS.below hb9
  have HB1 := Lib.hid (HBd.out.trans (hb9.mono HBd.out.size))
  refine hK _ _ ⟨hS1, ?_⟩
  clear hK K hb9 hS HBd
  refine wpAnyH_take (i := 3) (v := ?_) rfl (by kernel_rfl) (by decide +kernel) (by decide +kernel) (fun _ _ _ h => h) (Or.inl ⟨by rfl, ?_⟩) hS1 ?_
  rotate_left
  · intro w' hS; have l1 := HL.out w' hS.map; have lb := hS.box; have e0 := hS.blk.cell 0; have e1 := hS.blk.cell 1; have e2 := hS.blk.cell 2; have e3 := hS.blk.cell 3; first | (go_simp; done) | (go_simp; with_reducible rfl)
  refine wpAnyH_take (i := 5) (v := ?_) rfl (by kernel_rfl) (by decide +kernel) (by decide +kernel) (fun _ _ _ h => h) (Or.inl ⟨by rfl, ?_⟩) hS1 ?_
  rotate_left
  · intro w' hS; have l1 := HL.out w' hS.map; have lb := hS.box; have e0 := hS.blk.cell 0; have e1 := hS.blk.cell 1; have e2 := hS.blk.cell 2; have e3 := hS.blk.cell 3; first | (go_simp; done) | (go_simp; with_reducible rfl)
  refine wpAnyH_take (i := 6) (v := ?_) rfl (by kernel_rfl) (by decide +kernel) (by decide +kernel) (fun _ _ _ h => h) (Or.inl ⟨by rfl, ?_⟩) hS1 ?_
  rotate_left
  · intro w' hS; have l1 := HL.out w' hS.map; have lb := hS.box; have e0 := hS.blk.cell 0; have e1 := hS.blk.cell 1; have e2 := hS.blk.cell 2; have e3 := hS.blk.cell 3; first | (go_simp; done) | (go_simp; with_reducible rfl)
  refine wpAnyH_done (by decide +kernel) ?_ _
  clear hS1 HL heq
  go_wp2
  go_ret
  exact ⟨rfl, HB1.out⟩
set_option maxRecDepth 100000 in
set_option maxHeartbeats 8000000 in
theorem agreed_b (A1 A2 : Option Addr) (a b : List Pl.En) (n1 c1 n2 c2 : Nat) (hn1 : a.length = n1) (hn2 : b.length = n2) (ha : Pl.Vb a) (hb : Pl.Vb b) (w : World) (hI1 : Rows enL 4 w A1 a) (hI2 : Rows enL 4 w A2 b) :
    Calls Try.prog 71 #[.slice A1 n1 c1, .slice A2 n2 c2] w fun e w' => ∃ v, e = .returned v ∧ w'.ownsRow w.heap.size 24 4 v (Pl.agr a b).length (flt enL (Pl.agr a b)) ∧ Below w.heap.size w w' := by
  have eg : ∀ args w, (callFunc 100 args).run Try.prog w = .ok (.enter 100 args) w := enters_of Try.func100 (by kernel_rfl) rfl
  have HI1 := Lib.hid hI1
  have HI2 := Lib.hid hI2
  have HN1 := Lib.hid hn1
  have HN2 := Lib.hid hn2
  have Ha := Lib.hid ha
  have Hb := Lib.hid hb
  have hl1 : n1 ≤ 200 := by rw [← hn1]; exact ha.len
  have hl2 : n2 ≤ 200 := by rw [← hn2]; exact hb.len
  have HEG := Lib.hid eg
  clear hI1 hI2 hn1 hn2 ha hb eg
  go_enter Try.func71, Try.ntmps71
  go_wp2_with fail
  refine (byname_any A2 b c2 n2 HN2.out (by omega) (fun e he => okN_ve (Hb.out.each e he)) w HI2.out).mono ?_
  rintro e w1 ⟨rfl, hM1, hb1⟩
  rw [Pl.gm_id Hb.out.dif] at hM1
  obtain ⟨bm, hbm⟩ : ∃ q, w.heap.size = q := ⟨_, rfl⟩
  rw [hbm] at hM1 ⊢
  have bY := Blk.new w1 70 #[.map (some bm)]
  have hb2 := (Below.refl w1.heap.size w1).alloc (Nat.le_refl _) (.cells #[.map (some bm)] 70)
  have HM2 := Lib.hid (hM1.below hb2)
  have HB2 := Lib.hid (hb1.trans (hb2.mono hb1.size))
  have HQ := Lib.hid (bY.cell 0)
  have HQL := Lib.hid bY.lt
  clear hM1 hb1 hb2 bY
  go_wp2_with fail
  generalize hW2 : w1.alloc (.cells #[.map (some bm)] 70) = w2 at *
  clear hW2
  generalize w1.heap.size = bl at *
  have HI := Lib.hid (HI1.out.below HB2.out)
  refine (byname_any A1 a c1 n1 HN1.out (by omega) (fun e he => okN_ve (Ha.out.each e he)) w2 HI.out).mono ?_
  rintro e w3 ⟨rfl, hM3, hb3⟩
  rw [Pl.gm_id Ha.out.dif] at hM3
  have HM3 := Lib.hid hM3
  have HM2' := Lib.hid (HM2.out.below hb3)
  have HQ3 := Lib.hid ((hb3.cell (p := ⟨bl, 0, none⟩) HQL.out).trans HQ.out)
  have HQL3 := Lib.hid (Nat.lt_of_lt_of_le HQL.out hb3.size)
  have HB3 := Lib.hid (HB2.out.trans (hb3.mono HB2.out.size))
  clear hM3 hb3 HM2 HQ HQL HB2 HI
  go_wp2_with fail
  refine (sorted_any w2.heap.size n1 a Ha.out.ok w3 HM3.out).mono ?_
  rintro e w4 ⟨v4, rfl, hO4, hb4⟩
  have hlen : (Pl.srt a).length = a.length := Pl.srt_len _
  have HO4 := Lib.hid hO4
  have HB4 := Lib.hid (HB3.out.trans (hb4.mono HB3.out.size))
  have HD := Lib.hid (delf_e 100 #[.pointer (some ⟨bl, 0, none⟩)] HEG.out w3.heap.size v4 (Pl.srt a) a.length hlen (by have := Ha.out.len; omega) (fun e => !decide (Pl.gt b (Pl.nm e) = e)) w3 w4 hb4 hb4.size hO4 (fun x hx W hW => by
    have hvx := Ha.out.each x (Pl.srt_mem.1 hx)
    exact agreed1_b x (okN_ve hvx) bl bm n2 b W ((hW.cell (p := ⟨bl, 0, none⟩) HQL3.out).trans HQ3.out) (HM2'.out.belowB hW HM2'.out.lt) _ rfl))
  clear hO4 hb4 hlen HM3 HM2' HQ3 HQL3 HEG
  go_wp2_with fail
  refine HD.out.mono ?_
  rintro e w5 ⟨v5, rfl, hO5, hb5⟩
  have HO5 := Lib.hid (hO5.mono HB3.out.size)
  have HB5 := Lib.hid (HB3.out.trans (hb5.mono HB3.out.size))
  clear hO5 hb5 HD
  go_wp2
  go_ret
  have hO := HO5.out
  exact ⟨_, rfl, by first | exact hO | (simp only [Bool.not_not] at hO; exact hO), HB5.out⟩
set_option maxRecDepth 100000 in
set_option maxHeartbeats 8000000 in
theorem since_b (A1 A2 : Option Addr) (a b : List Pl.En) (n1 c1 n2 c2 : Nat) (hn1 : a.length = n1) (hn2 : b.length = n2) (ha : Pl.Vb a) (hb : Pl.Vb b) (w : World) (hI1 : Rows enL 4 w A1 a) (hI2 : Rows enL 4 w A2 b) :
    Calls Try.prog 74 #[.slice A1 n1 c1, .slice A2 n2 c2] w fun e w' => ∃ v, e = .returned v ∧ w'.ownsRow w.heap.size 24 4 v (Pl.snc a b).length (flt enL (Pl.snc a b)) ∧ Below w.heap.size w w' := by
  have eg : ∀ args w, (callFunc 103 args).run Try.prog w = .ok (.enter 103 args) w := enters_of Try.func103 (by kernel_rfl) rfl
  have HI1 := Lib.hid hI1
  have HI2 := Lib.hid hI2
  have HN1 := Lib.hid hn1
  have HN2 := Lib.hid hn2
  have Ha := Lib.hid ha
  have Hb := Lib.hid hb
  have hl1 : n1 ≤ 200 := by rw [← hn1]; exact ha.len
  have hl2 : n2 ≤ 200 := by rw [← hn2]; exact hb.len
  have HEG := Lib.hid eg
  clear hI1 hI2 hn1 hn2 ha hb eg
  go_enter Try.func74, Try.ntmps74
  go_wp2_with fail
  refine (byname_any A1 a c1 n1 HN1.out (by omega) (fun e he => okN_ve (Ha.out.each e he)) w HI1.out).mono ?_
  rintro e w1 ⟨rfl, hM1, hb1⟩
  rw [Pl.gm_id Ha.out.dif] at hM1
  obtain ⟨bm, hbm⟩ : ∃ q, w.heap.size = q := ⟨_, rfl⟩
  rw [hbm] at hM1 ⊢
  have bY := Blk.new w1 70 #[.map (some bm)]
  have hb2 := (Below.refl w1.heap.size w1).alloc (Nat.le_refl _) (.cells #[.map (some bm)] 70)
  have HM2 := Lib.hid (hM1.below hb2)
  have HB2 := Lib.hid (hb1.trans (hb2.mono hb1.size))
  have HQ := Lib.hid (bY.cell 0)
  have HQL := Lib.hid bY.lt
  clear hM1 hb1 hb2 bY
  go_wp2_with fail
  generalize hW2 : w1.alloc (.cells #[.map (some bm)] 70) = w2 at *
  clear hW2
  generalize w1.heap.size = bl at *
  have HI := Lib.hid (HI2.out.below HB2.out)
  refine (byname_any A2 b c2 n2 HN2.out (by omega) (fun e he => okN_ve (Hb.out.each e he)) w2 HI.out).mono ?_
  rintro e w3 ⟨rfl, hM3, hb3⟩
  rw [Pl.gm_id Hb.out.dif] at hM3
  have HM3 := Lib.hid hM3
  have HM2' := Lib.hid (HM2.out.below hb3)
  have HQ3 := Lib.hid ((hb3.cell (p := ⟨bl, 0, none⟩) HQL.out).trans HQ.out)
  have HQL3 := Lib.hid (Nat.lt_of_lt_of_le HQL.out hb3.size)
  have HB3 := Lib.hid (HB2.out.trans (hb3.mono HB2.out.size))
  clear hM3 hb3 HM2 HQ HQL HB2 HI
  go_wp2_with fail
  refine (sorted_any w2.heap.size n2 b Hb.out.ok w3 HM3.out).mono ?_
  rintro e w4 ⟨v4, rfl, hO4, hb4⟩
  have hlen : (Pl.srt b).length = b.length := Pl.srt_len _
  have HO4 := Lib.hid hO4
  have HB4 := Lib.hid (HB3.out.trans (hb4.mono HB3.out.size))
  have HD := Lib.hid (delf_e 103 #[.pointer (some ⟨bl, 0, none⟩)] HEG.out w3.heap.size v4 (Pl.srt b) b.length hlen (by have := Hb.out.len; omega) (fun e => decide (Pl.gt a (Pl.nm e) = e)) w3 w4 hb4 hb4.size hO4 (fun x hx W hW => by
    have hvx := Hb.out.each x (Pl.srt_mem.1 hx)
    exact since1_b x (okN_ve hvx) bl bm n1 a W ((hW.cell (p := ⟨bl, 0, none⟩) HQL3.out).trans HQ3.out) (HM2'.out.belowB hW HM2'.out.lt) _ rfl))
  clear hO4 hb4 hlen HM3 HM2' HQ3 HQL3 HEG
  go_wp2_with fail
  refine HD.out.mono ?_
  rintro e w5 ⟨v5, rfl, hO5, hb5⟩
  have HO5 := Lib.hid (hO5.mono HB3.out.size)
  have HB5 := Lib.hid (HB3.out.trans (hb5.mono HB3.out.size))
  clear hO5 hb5 HD
  go_wp2
  go_ret
  have hO := HO5.out
  exact ⟨_, rfl, by first | exact hO | (simp only [Bool.not_not] at hO; exact hO), HB5.out⟩
theorem co_cases (a b : List Pl.En) {y z : Bool} (hy : Pl.vB a = y) (hz : Pl.vB b = z) :
    (Pl.coE a b = if !y || !z then 90 else 0) ∧ (Pl.coV a b = if Pl.coE a b = 0 then Pl.dif a b else []) ∧ (Pl.agV a b = if Pl.coE a b = 0 then Pl.agr a b else []) ∧ (Pl.snV a b = if Pl.coE a b = 0 then Pl.snc a b else []) := by
  unfold Pl.coV Pl.agV Pl.snV Pl.coE
  rw [hy, hz]
  exact ⟨rfl, rfl, rfl, rfl⟩
set_option maxRecDepth 100000 in
set_option maxHeartbeats 4000000 in
theorem compare2_b (A1 A2 : Option Addr) (a b : List Pl.En) (n1 c1 n2 c2 : Nat) (hn1 : a.length = n1) (hn2 : b.length = n2) (hm1 : n1 ≤ maxLen) (hm2 : n2 ≤ maxLen) (hx1 : A1 = none → c1 = 0) (hx2 : A2 = none → c2 = 0) (w : World) (hI1 : Rows enL 4 w A1 a) (hI2 : Rows enL 4 w A2 b) :
    Calls Try.prog 29 #[.slice A1 n1 c1, .slice A2 n2 c2] w fun e w' => ∃ v, e = .returned (.tuple #[v, .int .i64 (Pl.coE a b)]) ∧ w'.ownsRow w.heap.size 61 9 v (Pl.coV a b).length (flt dfL (Pl.coV a b)) ∧ Below w.heap.size w w' := by
  obtain ⟨y, hy⟩ : ∃ y, Pl.vB a = y := ⟨_, rfl⟩
  obtain ⟨z, hz⟩ : ∃ z, Pl.vB b = z := ⟨_, rfl⟩
  have HC := Lib.hid (co_cases a b hy hz)
  have HX1 := Lib.hid hx1
  have HX2 := Lib.hid hx2
  have HV1 := Lib.hid (valid_any A1 a c1 n1 hn1 hm1 y hy w hI1)
  have HV2 := Lib.hid (fun W (h : Below w.heap.size w W) => valid_any A2 b c2 n2 hn2 hm2 z hz W (hI2.below h))
  have HCO := Lib.hid (fun (h1 : y = true) (h2 : z = true) W (h : Below w.heap.size w W) => differences_b A1 A2 a b n1 c1 n2 c2 hn1 hn2 HX1.out HX2.out (Pl.vb_iff.1 (hy.trans h1)) (Pl.vb_iff.1 (hz.trans h2)) W (hI1.below h) (hI2.below h))
  have HE := Lib.hid HC.out.1
  have HR := Lib.hid HC.out.2.1
  clear hy hz hn1 hn2 hm1 hm2 hx1 hx2 hI1 hI2 HC HX1 HX2
  generalize Pl.coE a b = er at *
  generalize Pl.coV a b = vr at *
  cases y
  case false =>
    have h1 := HE.out
    have h2 := HR.out
    simp at h1
    subst h1
    simp at h2
    subst h2
    clear HE HR HCO
    go_enter Try.func29, Try.ntmps29
    go_wp2_with fail
    refine HV1.out.mono ?_
    rintro e w1 ⟨rfl, hb⟩
    go_wp2
    go_ret2
    exact ⟨_, rfl, World.ownsRow_nil _ _ _ _, hb⟩
  case true =>
  cases z
  case false =>
    have h1 := HE.out
    have h2 := HR.out
    simp at h1
    subst h1
    simp at h2
    subst h2
    clear HE HR HCO
    go_enter Try.func29, Try.ntmps29
    go_wp2_with fail
    refine HV1.out.mono ?_
    rintro e w1 ⟨rfl, hb⟩
    go_wp2_with fail
    refine (HV2.out _ hb).mono ?_
    rintro e w2 ⟨rfl, hb2⟩
    have hB2 := hb.trans (hb2.mono hb.size)
    go_wp2
    go_ret2
    exact ⟨_, rfl, World.ownsRow_nil _ _ _ _, hB2⟩
  case true =>
    have h1 := HE.out
    have h2 := HR.out
    simp at h1
    subst h1
    simp at h2
    subst h2
    clear HE HR
    go_enter Try.func29, Try.ntmps29
    go_wp2_with fail
    refine HV1.out.mono ?_
    rintro e w1 ⟨rfl, hb⟩
    go_wp2_with fail
    refine (HV2.out _ hb).mono ?_
    rintro e w2 ⟨rfl, hb2⟩
    have hB2 := hb.trans (hb2.mono hb.size)
    clear hb hb2
    go_wp2_with fail
    refine (HCO.out (by simp) (by simp) _ hB2).mono ?_
    rintro e w3 ⟨v3, rfl, hO3, hb3⟩
    have HO3 := Lib.hid (hO3.mono hB2.size)
    have hB3 := hB2.trans (hb3.mono hB2.size)
    clear hO3 hb3 hB2
    go_wp2
    go_ret2
    exact ⟨_, rfl, HO3.out, hB3⟩
set_option maxRecDepth 100000 in
set_option maxHeartbeats 4000000 in
theorem agreed2_b (A1 A2 : Option Addr) (a b : List Pl.En) (n1 c1 n2 c2 : Nat) (hn1 : a.length = n1) (hn2 : b.length = n2) (hm1 : n1 ≤ maxLen) (hm2 : n2 ≤ maxLen) (hx1 : A1 = none → c1 = 0) (hx2 : A2 = none → c2 = 0) (w : World) (hI1 : Rows enL 4 w A1 a) (hI2 : Rows enL 4 w A2 b) :
    Calls Try.prog 32 #[.slice A1 n1 c1, .slice A2 n2 c2] w fun e w' => ∃ v, e = .returned (.tuple #[v, .int .i64 (Pl.coE a b)]) ∧ w'.ownsRow w.heap.size 24 4 v (Pl.agV a b).length (flt enL (Pl.agV a b)) ∧ Below w.heap.size w w' := by
  obtain ⟨y, hy⟩ : ∃ y, Pl.vB a = y := ⟨_, rfl⟩
  obtain ⟨z, hz⟩ : ∃ z, Pl.vB b = z := ⟨_, rfl⟩
  have HC := Lib.hid (co_cases a b hy hz)
  have HX1 := Lib.hid hx1
  have HX2 := Lib.hid hx2
  have HV1 := Lib.hid (valid_any A1 a c1 n1 hn1 hm1 y hy w hI1)
  have HV2 := Lib.hid (fun W (h : Below w.heap.size w W) => valid_any A2 b c2 n2 hn2 hm2 z hz W (hI2.below h))
  have HCO := Lib.hid (fun (h1 : y = true) (h2 : z = true) W (h : Below w.heap.size w W) => agreed_b A1 A2 a b n1 c1 n2 c2 hn1 hn2 (Pl.vb_iff.1 (hy.trans h1)) (Pl.vb_iff.1 (hz.trans h2)) W (hI1.below h) (hI2.below h))
  have HE := Lib.hid HC.out.1
  have HR := Lib.hid HC.out.2.2.1
  clear hy hz hn1 hn2 hm1 hm2 hx1 hx2 hI1 hI2 HC HX1 HX2
  generalize Pl.coE a b = er at *
  generalize Pl.agV a b = vr at *
  cases y
  case false =>
    have h1 := HE.out
    have h2 := HR.out
    simp at h1
    subst h1
    simp at h2
    subst h2
    clear HE HR HCO
    go_enter Try.func32, Try.ntmps32
    go_wp2_with fail
    refine HV1.out.mono ?_
    rintro e w1 ⟨rfl, hb⟩
    go_wp2
    go_ret2
    exact ⟨_, rfl, World.ownsRow_nil _ _ _ _, hb⟩
  case true =>
  cases z
  case false =>
    have h1 := HE.out
    have h2 := HR.out
    simp at h1
    subst h1
    simp at h2
    subst h2
    clear HE HR HCO
    go_enter Try.func32, Try.ntmps32
    go_wp2_with fail
    refine HV1.out.mono ?_
    rintro e w1 ⟨rfl, hb⟩
    go_wp2_with fail
    refine (HV2.out _ hb).mono ?_
    rintro e w2 ⟨rfl, hb2⟩
    have hB2 := hb.trans (hb2.mono hb.size)
    go_wp2
    go_ret2
    exact ⟨_, rfl, World.ownsRow_nil _ _ _ _, hB2⟩
  case true =>
    have h1 := HE.out
    have h2 := HR.out
    simp at h1
    subst h1
    simp at h2
    subst h2
    clear HE HR
    go_enter Try.func32, Try.ntmps32
    go_wp2_with fail
    refine HV1.out.mono ?_
    rintro e w1 ⟨rfl, hb⟩
    go_wp2_with fail
    refine (HV2.out _ hb).mono ?_
    rintro e w2 ⟨rfl, hb2⟩
    have hB2 := hb.trans (hb2.mono hb.size)
    clear hb hb2
    go_wp2_with fail
    refine (HCO.out (by simp) (by simp) _ hB2).mono ?_
    rintro e w3 ⟨v3, rfl, hO3, hb3⟩
    have HO3 := Lib.hid (hO3.mono hB2.size)
    have hB3 := hB2.trans (hb3.mono hB2.size)
    clear hO3 hb3 hB2
    go_wp2
    go_ret2
    exact ⟨_, rfl, HO3.out, hB3⟩
set_option maxRecDepth 100000 in
set_option maxHeartbeats 4000000 in
theorem since2_b (A1 A2 : Option Addr) (a b : List Pl.En) (n1 c1 n2 c2 : Nat) (hn1 : a.length = n1) (hn2 : b.length = n2) (hm1 : n1 ≤ maxLen) (hm2 : n2 ≤ maxLen) (hx1 : A1 = none → c1 = 0) (hx2 : A2 = none → c2 = 0) (w : World) (hI1 : Rows enL 4 w A1 a) (hI2 : Rows enL 4 w A2 b) :
    Calls Try.prog 36 #[.slice A1 n1 c1, .slice A2 n2 c2] w fun e w' => ∃ v, e = .returned (.tuple #[v, .int .i64 (Pl.coE a b)]) ∧ w'.ownsRow w.heap.size 24 4 v (Pl.snV a b).length (flt enL (Pl.snV a b)) ∧ Below w.heap.size w w' := by
  obtain ⟨y, hy⟩ : ∃ y, Pl.vB a = y := ⟨_, rfl⟩
  obtain ⟨z, hz⟩ : ∃ z, Pl.vB b = z := ⟨_, rfl⟩
  have HC := Lib.hid (co_cases a b hy hz)
  have HX1 := Lib.hid hx1
  have HX2 := Lib.hid hx2
  have HV1 := Lib.hid (valid_any A1 a c1 n1 hn1 hm1 y hy w hI1)
  have HV2 := Lib.hid (fun W (h : Below w.heap.size w W) => valid_any A2 b c2 n2 hn2 hm2 z hz W (hI2.below h))
  have HCO := Lib.hid (fun (h1 : y = true) (h2 : z = true) W (h : Below w.heap.size w W) => since_b A1 A2 a b n1 c1 n2 c2 hn1 hn2 (Pl.vb_iff.1 (hy.trans h1)) (Pl.vb_iff.1 (hz.trans h2)) W (hI1.below h) (hI2.below h))
  have HE := Lib.hid HC.out.1
  have HR := Lib.hid HC.out.2.2.2
  clear hy hz hn1 hn2 hm1 hm2 hx1 hx2 hI1 hI2 HC HX1 HX2
  generalize Pl.coE a b = er at *
  generalize Pl.snV a b = vr at *
  cases y
  case false =>
    have h1 := HE.out
    have h2 := HR.out
    simp at h1
    subst h1
    simp at h2
    subst h2
    clear HE HR HCO
    go_enter Try.func36, Try.ntmps36
    go_wp2_with fail
    refine HV1.out.mono ?_
    rintro e w1 ⟨rfl, hb⟩
    go_wp2
    go_ret2
    exact ⟨_, rfl, World.ownsRow_nil _ _ _ _, hb⟩
  case true =>
  cases z
  case false =>
    have h1 := HE.out
    have h2 := HR.out
    simp at h1
    subst h1
    simp at h2
    subst h2
    clear HE HR HCO
    go_enter Try.func36, Try.ntmps36
    go_wp2_with fail
    refine HV1.out.mono ?_
    rintro e w1 ⟨rfl, hb⟩
    go_wp2_with fail
    refine (HV2.out _ hb).mono ?_
    rintro e w2 ⟨rfl, hb2⟩
    have hB2 := hb.trans (hb2.mono hb.size)
    go_wp2
    go_ret2
    exact ⟨_, rfl, World.ownsRow_nil _ _ _ _, hB2⟩
  case true =>
    have h1 := HE.out
    have h2 := HR.out
    simp at h1
    subst h1
    simp at h2
    subst h2
    clear HE HR
    go_enter Try.func36, Try.ntmps36
    go_wp2_with fail
    refine HV1.out.mono ?_
    rintro e w1 ⟨rfl, hb⟩
    go_wp2_with fail
    refine (HV2.out _ hb).mono ?_
    rintro e w2 ⟨rfl, hb2⟩
    have hB2 := hb.trans (hb2.mono hb.size)
    clear hb hb2
    go_wp2_with fail
    refine (HCO.out (by simp) (by simp) _ hB2).mono ?_
    rintro e w3 ⟨v3, rfl, hO3, hb3⟩
    have HO3 := Lib.hid (hO3.mono hB2.size)
    have hB3 := hB2.trans (hb3.mono hB2.size)
    clear hO3 hb3 hB2
    go_wp2
    go_ret2
    exact ⟨_, rfl, HO3.out, hB3⟩
end Go.Proofs.Ytalfffkcmddakaa
