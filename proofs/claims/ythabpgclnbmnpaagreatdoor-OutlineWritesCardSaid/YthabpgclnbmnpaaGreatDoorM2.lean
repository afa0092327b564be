import Derived.Test.YthabpgclnbmnpaaGreatDoorM1
namespace Go.Proofs.YthabpgclnbmnpaaGreatDoor
open Go.RowKit Go.Shelf
attribute [local go_sem] Oper.semAt_some

theorem dvalid_b (A : Option Addr) (l : List Geo.XY) (c : Nat) (w : World) (h : Pts w A l) (r : Bool) (hr : validB l = r) :
    Calls Tryz.prog 10 #[.slice A l.length c] w fun e w' => e = .returned (.bool r) ∧ Below w.heap.size w w' := by subst hr; exact dvalid_any A l c w h
theorem rvalid_b (A : Option Addr) (l : List Geo.XY) (c : Nat) (w : World) (h : Pts w A l) (r : Bool) (hr : validB l = r) :
    Calls Tryz.prog 17 #[.slice A l.length c] w fun e w' => e = .returned (.bool r) ∧ Below w.heap.size w w' := by subst hr; exact rvalid_any A l c w h
theorem valid_of {l : List Geo.XY} (h : validB l = true) : Valid l := by unfold validB at h; simpa using h
theorem Valid.allin {l : List Geo.XY} (h : Valid l) : AllIn l := h.2.2.1

/-- a value with its error: the value where the outline is valid -/
noncomputable def okOr (l : List Geo.XY) (z v : Value) : Ending := if validB l = true then .returned (.tuple #[v, .int .i64 0]) else .returned (.tuple #[z, .int .i64 10])
theorem okOr_yes {l : List Geo.XY} (h : validB l = true) (z v : Value) : okOr l z v = .returned (.tuple #[v, .int .i64 0]) := if_pos h
theorem okOr_no {l : List Geo.XY} (h : validB l = false) (z v : Value) : okOr l z v = .returned (.tuple #[z, .int .i64 10]) := by unfold okOr; rw [h]; rfl

set_option maxHeartbeats 1000000 in
theorem diameter_any (A : Option Addr) (l : List Geo.XY) (c : Nat) (w : World) (hr : Pts w A l) :
    Calls Tryz.prog 23 #[.slice A l.length c] w fun e w' => e = okOr l (.int .i64 0) (.int .i64 (Geo.csq (4 * farK l l.length))) ∧ Below w.heap.size w w' := by
  have HR := Lib.hid hr
  clear hr
  cases hv : validB l with
  | false =>
    have HV := Lib.hid hv
    have H := Lib.hid (okOr_no hv (.int .i64 0) (.int .i64 (Geo.csq (4 * farK l l.length))))
    clear hv
    go_enter Tryz.func23, Tryz.ntmps23
    go_wp2_with (go_at_call 10; refine (dvalid_b _ _ _ _ HR.out false HV.out).mono ?_; rintro e w' ⟨rfl, hb'⟩)
    go_ret2
    exact ⟨by rw [H.out]; rfl, hb'⟩
  | true =>
    have HV := Lib.hid hv
    have H := Lib.hid (okOr_yes hv (.int .i64 0) (.int .i64 (Geo.csq (4 * farK l l.length))))
    have hval := valid_of hv
    have h64 := hval.2.1
    have HIN := Lib.hid hval.allin
    clear hv hval
    go_enter Tryz.func23, Tryz.ntmps23
    go_wp2_with (first | (go_at_call 10; refine (dvalid_b _ _ _ _ HR.out true HV.out).mono ?_; rintro e w' ⟨rfl, hb'⟩) | (go_at_call 44; refine (diam_any _ _ _ _ (HR.out.below hb') h64 HIN.out).mono ?_; rintro e w2 ⟨rfl, hb2⟩))
    go_ret2
    exact ⟨by rw [H.out]; rfl, hb'.trans (hb2.mono hb'.size)⟩

def arSt (l : List Geo.XY) (pre : List Nat) : Int := pre.foldl (fun s k => s + Geo.cr (Geo.X l k) (Geo.X l ((k + 1) % l.length))) 0
theorem arSt_snoc (l : List Geo.XY) (pre : List Nat) (k : Nat) : arSt l (pre ++ [k]) = arSt l pre + Geo.cr (Geo.X l k) (Geo.X l ((k + 1) % l.length)) := by
  unfold arSt; rw [List.foldl_append]; rfl
theorem cr_bd {l : List Geo.XY} (h : AllIn l) (i j : Nat) : -50000000 ≤ Geo.cr (Geo.X l i) (Geo.X l j) ∧ Geo.cr (Geo.X l i) (Geo.X l j) ≤ 50000000 := by
  obtain ⟨a1, a2, a3, a4⟩ := in_all h i
  obtain ⟨a5, a6, a7, a8⟩ := in_all h j
  obtain ⟨m1, m2⟩ := mul_bd (a := (Geo.X l i).1) (b := (Geo.X l j).2) (A := 5000) (B := 5000) (by omega) (by omega) (by omega) (by omega)
  obtain ⟨m3, m4⟩ := mul_bd (a := (Geo.X l i).2) (b := (Geo.X l j).1) (A := 5000) (B := 5000) (by omega) (by omega) (by omega) (by omega)
  unfold Geo.cr
  omega
def ArOk (l : List Geo.XY) (pre : List Nat) : Prop := -(50000000 * (pre.length : Int)) ≤ arSt l pre ∧ arSt l pre ≤ 50000000 * (pre.length : Int)
theorem ArOk.snoc {l : List Geo.XY} (h : AllIn l) {pre : List Nat} (hp : ArOk l pre) (k : Nat) : ArOk l (pre ++ [k]) := by
  have := cr_bd h k ((k + 1) % l.length)
  unfold ArOk at *
  rw [arSt_snoc, List.length_append, List.length_singleton]
  omega
theorem arSt_area (l : List Geo.XY) (k : Nat) (hk : k ≤ l.length) : arSt l (List.range k) = Geo.areaK l k := by
  induction k with
  | zero => rfl
  | succ k ih =>
    rw [List.range_succ, arSt_snoc, ih (by omega), Geo.areaK, Geo.At_lt l (i := k) (by omega), ← Geo.At_mod l (k + 1), Geo.At_lt l (Nat.mod_lt _ (by omega))]

set_option maxRecDepth 100000 in
set_option maxHeartbeats 2000000 in
theorem area_in (b off cap : Nat) (l : List Geo.XY) (hval : validB l = true) (w : World) (hb : b < w.heap.size)
    (hc : ∀ k, k < l.length → w.cell? ⟨b, off + k * 2, none⟩ = some (.int .i64 (Geo.X l k).1) ∧ w.cell? ⟨b, off + k * 2 + 1, none⟩ = some (.int .i64 (Geo.X l k).2)) :
    CallsIn Fence.wide 5 Tryz.prog 22 #[.slice (some ⟨b, off, none⟩) l.length cap] w fun e W' => e = .returned (.tuple #[.int .i64 (Geo.areaK l l.length), .int .i64 0]) ∧ Below w.heap.size w W' := by
  have HV := Lib.hid hval
  have hva := valid_of hval
  have h3 := hva.1
  have h64 := hva.2.1
  have HIN := Lib.hid hva.allin
  clear hval hva
  have HC := Lib.hid hc
  have HP : Hid (Pts w (some ⟨b, off, none⟩) l) := Lib.hid (.inr ⟨b, off, rfl, hb, hc⟩)
  clear hc
  refine callsIn_of_wp_marks Tryz.func22 rfl trivial ?_ rfl
  simp only [Tryz.ntmps22, List.size_toArray, List.length_cons, List.length_nil, Nat.reduceAdd, Nat.reduceSub, Array.replicate_succ, Array.replicate_zero, List.push_toArray, List.append_toArray, List.nil_append, List.cons_append]
  gi_wp2_with (first | (refine ⟨trivial, ?_⟩; gi_at_call 10; refine (callsIn_wide.2 (dvalid_b _ _ _ _ HP.out true HV.out)).mono ?_; rintro e w1 ⟨rfl, hb1⟩) | (refine ⟨trivial, ?_⟩; gi_at_call 42; refine (sides_any _ _ _ _ _).mono ?_; rintro e w' ⟨rfl, rfl⟩))
  have hs1 := hb1.size
  have bA := (Blk.new w1 3 #[.int .i64 0]).alloc (.cells #[.slice (some ⟨b, off, none⟩) l.length cap] 22)
  have bO := Blk.new (w1.alloc (.cells #[.int .i64 0] 3)) 22 #[.slice (some ⟨b, off, none⟩) l.length cap]
  rw [World.size_alloc] at bO
  have hB0 : Below w.heap.size w ((w1.alloc (.cells #[.int .i64 0] 3)).alloc (.cells #[.slice (some ⟨b, off, none⟩) l.length cap] 22)) := (hb1.alloc hs1 _).alloc (by simp; omega) _
  have hsz : ((w1.alloc (.cells #[.int .i64 0] 3)).alloc (.cells #[.slice (some ⟨b, off, none⟩) l.length cap] 22)).heap.size = w1.heap.size + 2 := by simp
  obtain ⟨W0, hW0⟩ : ∃ W0, (w1.alloc (.cells #[.int .i64 0] 3)).alloc (.cells #[.slice (some ⟨b, off, none⟩) l.length cap] 22) = W0 := ⟨_, rfl⟩
  rw [hW0] at bA bO hB0 hsz ⊢
  clear hW0
  obtain ⟨S, hSS⟩ : ∃ S, S = w1.heap.size := ⟨_, rfl⟩
  rw [← hSS] at bA bO hsz hs1 ⊢
  clear hSS hb1
  refine wpIn_rangeFunc_ownH rfl (by omega) (gf := 61) (lb := #[.pointer (some ⟨S + 1, 0, none⟩)]) rfl trivial (enters_of Tryz.func61 (by kernel_rfl) rfl)
    (sides_stops (5 - 1) (S + 1) w.heap.size b off cap l (by omega) h64 W0 (by omega) (by omega) hb (bO.cell 0) (fun k hk => ⟨(hB0.cell (p := ⟨b, off + k * 2, none⟩) hb).trans (HC.out k hk).1, (hB0.cell (p := ⟨b, off + k * 2 + 1, none⟩) hb).trans (HC.out k hk).2⟩))
    KeepsO.trans (keepsO_b (by omega) (by omega)) (Below.refl _ _) (fun _ => rfl)
    (fun pre W => ((Blk W S 3 #[.int .i64 (arSt l pre)] ∧ Blk W (S + 1) 22 #[.slice (some ⟨b, off, none⟩) l.length cap]) ∧ ArOk l pre) ∧ Below w.heap.size w W)
    (fun _ _ _ => False)
    (OwnFrom.and (OwnFrom.and (OwnFrom.and (Own.from (blk_own _ _ _) _) (Own.from (blk_own _ _ _) _)) (fun _ _ _ _ hs _ _ => hs)) (ownFrom_below (Nat.le_refl _) (by omega)))
    (fun _ _ _ _ _ hs _ _ => hs)
    ⟨⟨⟨bA, bO⟩, ⟨by simp [arSt], by simp [arSt]⟩⟩, hB0⟩
    (fun x a' W => ∃ Ba, (Blk W Ba 42 (xyA (Geo.X l x)) ∧ Blk W (Ba + 1) 42 (xyA (Geo.X l ((x + 1) % l.length)))) ∧ S + 1 < Ba ∧ a' = { tmps := #[.slice (some ⟨b, off, none⟩) l.length cap, undef, .int .i64 0, .int .i64 0, .pointer (some ⟨S, 0, none⟩), .pointer (some ⟨Ba, 0, none⟩), .pointer (some ⟨Ba + 1, 0, none⟩), .slice (some ⟨b, off, none⟩) l.length cap, .bool true, .bool false, .slice (some ⟨b, off, none⟩) l.length cap, .func (.func 61) #[] #[.pointer (some ⟨S + 1, 0, none⟩)], .agg #[.int .i64 (Geo.X l x).1, .int .i64 (Geo.X l x).2], .agg #[.int .i64 (Geo.X l ((x + 1) % l.length)).1, .int .i64 (Geo.X l ((x + 1) % l.length)).2], undef, undef, undef, undef, undef, undef], defers := [] })
    (fun x a' _ X Y row hs hg hr => by obtain ⟨Ba, ⟨h1, h2⟩, h4⟩ := hs; exact ⟨Ba, ⟨blk_own Ba 42 (fun (_ : Unit) => xyA (Geo.X l x)) () X Y row h1 hg (fun r e => (hr r e).2), blk_own (Ba + 1) 42 (fun (_ : Unit) => xyA (Geo.X l ((x + 1) % l.length))) () X Y row h2 hg (fun r e => (hr r e).2)⟩, h4⟩)
    ?assign ?body ?done ?stop
  case assign =>
    rintro lp pre x W K ⟨⟨⟨b1, b0⟩, ht⟩, hB1⟩ hK
    have HT := Lib.hid ht
    clear ht
    have hsW := hB1.size
    have hl1 := b0.lt
    dsimp only [sideEnc]
    gi_wp2
    refine hK _ _ (((KeepsOthers.alloc _ _).trans (KeepsOthers.alloc _ _)).from _) (((KeepsO.refl _ _ W).alloc hsW (by omega) _).alloc (by simp; omega) (by simp; omega) _) ⟨⟨⟨(b1.alloc _).alloc _, (b0.alloc _).alloc _⟩, HT.out⟩, (hB1.alloc hsW _).alloc (by simp; omega) _⟩ ⟨W.heap.size, ⟨(Blk.new W 42 _).alloc _, ?_⟩, ?_, rfl⟩
    · have := Blk.new (W.alloc (.cells #[.int .i64 (Geo.X l x).1, .int .i64 (Geo.X l x).2] 42)) 42 (xyA (Geo.X l ((x + 1) % l.length)))
      rwa [World.size_alloc] at this
    · exact hl1
  case body =>
    rintro lp pre x a' W hlp ⟨r, hr⟩ ⟨⟨⟨b1, b0⟩, ht⟩, hB1⟩ ⟨Ba, ⟨b3, b4⟩, hBa, rfl⟩ hlt
    have hok := ht.snoc HIN.out x
    have hsn := arSt_snoc l pre x
    have HOK := Lib.hid hok
    have HS := Lib.hid hsn
    obtain ⟨t1, t2⟩ := ht
    clear hok hsn
    obtain ⟨a1, a2, a3, a4⟩ := in_all HIN.out x
    obtain ⟨a5, a6, a7, a8⟩ := in_all HIN.out ((x + 1) % l.length)
    obtain ⟨a9, a10⟩ := cr_bd HIN.out x ((x + 1) % l.length)
    unfold Geo.cr at a9 a10
    have d1 := b1.cell 0
    have d1f := b1.frozen 0
    have d3 := b3.cell 0
    have d4 := b3.cell 1
    have d5 := b4.cell 0
    have d6 := b4.cell 1
    simp only [xyA, List.getElem?_toArray, List.getElem?_cons_zero, List.getElem?_cons_succ] at d1 d3 d4 d5 d6
    have hl1 := b1.lt
    have hl3 := b3.lt
    have hl4 := b4.lt
    have hl0 := b0.lt
    generalize hS1 : arSt l pre = cnt at *
    generalize hX1 : Geo.X l x = x1 at *
    generalize hX2 : Geo.X l ((x + 1) % l.length) = x2 at *
    clear hS1 hX1 hX2
    have hmix : Tryz.prog.follows .mixedOrders = true := by kernel_rfl
    have e1 : IntKind.i64.wrap (cnt + (x1.1 * x2.2 - x1.2 * x2.1)) = cnt + (x1.1 * x2.2 - x1.2 * x2.1) := IntWalk.i64_in _ (by omega)
    gi_wp2
    gi_region_with_o ((refine ⟨trivial, ?_⟩; gi_at_call 43; refine (CallsIn.inRound lp (callsIn_wide.2 (cross72_any _ _ _ _ (by omega) (by omega) (by omega) (by omega) (by omega) (by omega) (by omega) (by omega) _))).mono ?_; rintro e w' ⟨rfl, hb'⟩; have q1 := (b1.drew.below hb' hl1).cell 0; have q2 := (b1.drew.below hb' hl1).frozen 0; have q3 := (b3.drew.below hb' hl3).cell 0; have q4 := (b3.drew.below hb' hl3).cell 1; have q5 := (b4.drew.below hb' hl4).cell 0; have q6 := (b4.drew.below hb' hl4).cell 1; simp only [xyA, List.getElem?_toArray, List.getElem?_cons_zero, List.getElem?_cons_succ] at q1 q3 q4 q5 q6))
    all_goals
      gi_wp2
      have hbW : Below W.heap.size W w' := ((Below.refl W.heap.size W).drew).trans hb'
      refine ⟨(keepsFrom_below hbW).trans ((KeepsOthers.setCell _ _ _).from _), ⟨(hbW.mono hB1.size).setCell (p := ⟨S, 0, none⟩) (by simp; omega) _, ?_⟩, ⟨⟨?_, ?_⟩, HOK.out⟩, ?_⟩
      · exact ((b0.below hbW hl0).far (p := ⟨S, 0, none⟩) (by simp) _).trans b0.symm
      · rw [HS.out]; exact (b1.below hbW hl1).set_ 0 _
      · exact (b0.below hbW hl0).far (p := ⟨S, 0, none⟩) (by simp) _
      · exact (hB1.trans (hbW.mono hB1.size)).setCell (p := ⟨S, 0, none⟩) (by simp; omega) _
  case done =>
    rintro D ys W hD rfl ⟨⟨⟨b1, b0⟩, ht⟩, hB1⟩ hK
    have q1 := b1.cell 0
    simp only [List.getElem?_toArray, List.getElem?_cons_zero] at q1
    have HA := Lib.hid (arSt_area l l.length (Nat.le_refl _))
    clear ht
    gi_wp2
    refine ⟨by simp, .inl ⟨_, _, rfl, run_takeDeferred hK, ?_⟩⟩
    exact ⟨_, results_tmp2 rfl _ _ _, by rw [← HA.out]; rfl, hB1.trans (belowK_b (w := w) (Nat.le_refl _) _ D _ _ (by omega) hK rfl rfl)⟩
  case stop =>
    rintro D c pre W _ _ h _
    exact h.elim

set_option maxHeartbeats 1000000 in
theorem area_any (A : Option Addr) (l : List Geo.XY) (c : Nat) (w : World) (hr : Pts w A l) :
    Calls Tryz.prog 22 #[.slice A l.length c] w fun e w' => e = okOr l (.int .i64 0) (.int .i64 (Geo.areaK l l.length)) ∧ Below w.heap.size w w' := by
  cases hv : validB l with
  | false =>
    have HR := Lib.hid hr
    have HV := Lib.hid hv
    have H := Lib.hid (okOr_no hv (.int .i64 0) (.int .i64 (Geo.areaK l l.length)))
    clear hv hr
    go_enter Tryz.func22, Tryz.ntmps22
    go_wp2_with (go_at_call 10; refine (dvalid_b _ _ _ _ HR.out false HV.out).mono ?_; rintro e w' ⟨rfl, hb'⟩)
    go_ret2
    exact ⟨by rw [H.out]; rfl, hb'⟩
  | true =>
    rw [okOr_yes hv]
    rcases hr with h | ⟨b, off, rfl, hb, hc⟩
    · have := (valid_of hv).1
      rw [h] at this
      simp at this
    · exact callsIn_wide.1 (area_in b off c l hv w hb hc)
end Go.Proofs.YthabpgclnbmnpaaGreatDoor
