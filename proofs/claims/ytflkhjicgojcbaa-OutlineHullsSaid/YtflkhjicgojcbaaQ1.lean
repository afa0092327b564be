import Derived.Test.YtflkhjicgojcbaaL8
import Derived.Test.YtflkhjicgojcbaaG8
import Derived.Test.YtflkhjicgojcbaaA5
import Derived.RangeFuncBox
namespace Go.Proofs.Ytflkhjicgojcbaa
open Go.RowKit Go.Shelf
attribute [local go_sem] Oper.semAt_some

section
variable {lp n : Nat} {P : Program}
/-- in a round an operation goes as it goes outside -/
theorem opIn {o : Oper} {a : Act} {w : World} {K : Act → World → Prop} {Q Q' : Exit → Act → World → Prop} (hd : ∀ c, o.op ≠ .defer c) (hv : ∃ v w', (execOp a.eval o).run P w = .ok (.value v) w') (h : o.wp P a w K Q) : o.wpIn (Fence.wide.inRound lp) n P a w K Q' := by
  obtain ⟨v, w', hr⟩ := hv
  unfold Oper.wp at h
  unfold Oper.wpIn
  refine ⟨fun _ _ => trivial, ?_⟩
  rw [Fence.inRound_round, Oper.semAt_some _ _ _ hd, hr]
  rw [hr] at h
  exact h
theorem step_append_in {w : World} {ops : Array Oper} {o : Oper} {a : Act} {K : Act → World → Prop} {Q : Exit → Act → World → Prop} {E : Prop} (hg : o.guard = none) (s x : Operand) (t : TypeId)
    (ho : o.op = .call { callee := .builtin .append, args := #[s, x], argTypes := #[t, t] })
    (base : Nat) (e : TypeId) (i : TypeInfo) (z : Value) (size bytes : Nat) (ht : P.underlying t = some (.slice e)) (hi : P.info? e = some i) (hz : i.zero = some z)
    (hsize : i.size = size) (hby : i.bytes = bytes) (hzs : z.cells.size = size) (hsz : 0 < size)
    (v : Value) (k : Nat) (xs : List Value) (hs : a.eval s = v) (hown : w.ownsRow base e size v k xs)
    (ad : Addr) (m c : Nat) (news : List Value) (hx : a.eval x = .slice (some ad) m c) (hl : news.length = m * size) (hnews : ∀ j u, news[j]? = some u → w.cell? (ad.add j) = some u) (h1 : ∀ u ∈ news, u.oneCell' = true)
    (h63 : k + m ≤ maxLen) (hbytes : (k + m) * bytes ≤ 140737488355328) (hbase : base ≤ w.heap.size)
    (h : ∀ v' w', w'.ownsRow base e size v' (k + m) (xs ++ news) → w.grownBy w' v.ownBlock → K (a.put o.dst v') w') :
    if Region.wanted o (yielded ops a.tmps) = true then o.wpIn (Fence.wide.inRound lp) n P a w K Q else E := by
  have hw : Region.wanted o (yielded ops a.tmps) = true := by simp [Region.wanted, hg]
  rw [if_pos hw]
  obtain ⟨v', w', hr, h2, h3, _⟩ := run_append_own (P := P) w base t o.type e i z size bytes ht hi hz hsize hby hzs hsz v k xs hown ad m c news hl hnews h1 h63 hbytes hbase
  have hrun : (execOp a.eval o).run P w = .ok (.value v') w' := by
    unfold execOp
    simp only [ho, resolve, invoke, builtin, Sem.run_bind, Sem.run_pure, Result.andThen_ok, List.map_toArray, List.map_cons, List.map_nil, hs, hx, hr]
  refine opIn (Q := Q) (fun c hc => by rw [ho] at hc; cases hc) ⟨v', w', hrun⟩ ?_
  unfold Oper.wp
  rw [hrun]
  exact h v' w' h2 h3
end

theorem at_append {lp n : Nat} {P : Program} {ops : Array Oper} {o : Oper} {a : Act} {w : World} {K : Act → World → Prop} {Q : Exit → Act → World → Prop} {E : Prop} (_ho : o.op = .call { callee := .builtin .append, args := #[.tmp 13, .tmp 17], argTypes := #[22, 22] })
    (h : if Region.wanted o (yielded ops a.tmps) = true then o.wpIn (Fence.wide.inRound lp) n P a w K Q else E) : if Region.wanted o (yielded ops a.tmps) = true then o.wpIn (Fence.wide.inRound lp) n P a w K Q else E := h
theorem at_call68 {lp n : Nat} {P : Program} {ops : Array Oper} {o : Oper} {a : Act} {w : World} {K : Act → World → Prop} {Q : Exit → Act → World → Prop} {E : Prop} (_ho : o.op = .call { callee := .value (.func 68), args := #[.tmp 14, .tmp 15], argTypes := #[38, 38] })
    (h : if Region.wanted o (yielded ops a.tmps) = true then o.wpIn (Fence.wide.inRound lp) n P a w K Q else E) : if Region.wanted o (yielded ops a.tmps) = true then o.wpIn (Fence.wide.inRound lp) n P a w K Q else E := h

/-- the steps of the sides so far -/
def stL (l : List Geo.XY) (pre : List Nat) : List Geo.XY := pre.map fun k => Geo.sub (Geo.X l ((k + 1) % l.length)) (Geo.X l k)
theorem stL_snoc (l : List Geo.XY) (pre : List Nat) (k : Nat) : stL l (pre ++ [k]) = stL l pre ++ [Geo.sub (Geo.X l ((k + 1) % l.length)) (Geo.X l k)] := by unfold stL; rw [List.map_append]; rfl
theorem stL_len (l : List Geo.XY) (pre : List Nat) : (stL l pre).length = pre.length := by unfold stL; rw [List.length_map]
theorem stL_all {l : List Geo.XY} (h0 : 0 < l.length) : stL l (List.range l.length) = Geo.stepsL l := by
  unfold stL Geo.stepsL
  refine List.map_congr_left fun k hk => ?_
  have hk := List.mem_range.1 hk
  unfold Geo.edge
  rw [Geo.At_lt l hk, Geo.At_X l h0]

set_option maxRecDepth 100000 in
set_option maxHeartbeats 4000000 in
theorem steps_in (b off cap : Nat) (l : List Geo.XY) (h3 : 3 ≤ l.length) (h64 : l.length ≤ 64) (hin : AllIn l) (w : World) (hb : b < w.heap.size)
    (hc : ∀ k, k < l.length → w.cell? ⟨b, off + k * 2, none⟩ = some (.int .i64 (Geo.X l k).1) ∧ w.cell? ⟨b, off + k * 2 + 1, none⟩ = some (.int .i64 (Geo.X l k).2)) :
    CallsIn Fence.wide 5 Try.prog 89 #[.slice (some ⟨b, off, none⟩) l.length cap] w fun e W' => ∃ v, e = .returned v ∧ W'.ownsRow w.heap.size 38 2 v l.length (flat (Geo.stepsL l)) ∧ Below w.heap.size w W' := by
  have HIN := Lib.hid hin
  have HC := Lib.hid hc
  clear hin hc
  obtain ⟨i0, hi, hz0, hz1, hz2⟩ := info_parts info38'
  refine callsIn_of_wp_marks Try.func89 rfl trivial ?_ rfl
  simp only [Try.ntmps89, List.size_toArray, List.length_cons, List.length_nil, Nat.reduceAdd, Nat.reduceSub, Array.replicate_succ, Array.replicate_zero, List.push_toArray, List.append_toArray, List.nil_append, List.cons_append]
  gi_wp2_with (first | (gi_at_make; refine wpListIn_make_own _ rfl _ _ 22 rfl w.heap.size 38 i0 _ 2 Try.underlying22 hi hz0 hz1 .i64 .i64 _ l.length rfl rfl rfl (by rw [hz2]; omega) (by unfold maxLen; omega) (Nat.le_refl _) ?_; intro w0 hown0 hgrow0) | (refine ⟨trivial, ?_⟩; gi_at_call 71; refine (sides_any _ _ _ _ _).mono ?_; rintro e w' ⟨rfl, rfl⟩))
  have hs1 : w.heap.size ≤ w0.heap.size := hgrow0.size
  have hBw0 : Below w.heap.size w w0 := (Below.refl _ w).grown hgrow0 (Nat.le_refl _) (fun k e => by cases e)
  have bA := (Blk.new w0 22 #[.slice (some ⟨w.heap.size, 0, none⟩) 0 l.length]).alloc (.cells #[.slice (some ⟨b, off, none⟩) l.length cap] 22)
  have bO := Blk.new (w0.alloc (.cells #[.slice (some ⟨w.heap.size, 0, none⟩) 0 l.length] 22)) 22 #[.slice (some ⟨b, off, none⟩) l.length cap]
  rw [World.size_alloc] at bO
  have hownA := (hown0.alloc (.cells #[.slice (some ⟨w.heap.size, 0, none⟩) 0 l.length] 22)).alloc (.cells #[.slice (some ⟨b, off, none⟩) l.length cap] 22)
  have hB0 : Below w.heap.size w ((w0.alloc (.cells #[.slice (some ⟨w.heap.size, 0, none⟩) 0 l.length] 22)).alloc (.cells #[.slice (some ⟨b, off, none⟩) l.length cap] 22)) := (hBw0.alloc hs1 _).alloc (by simp; omega) _
  have hsz : ((w0.alloc (.cells #[.slice (some ⟨w.heap.size, 0, none⟩) 0 l.length] 22)).alloc (.cells #[.slice (some ⟨b, off, none⟩) l.length cap] 22)).heap.size = w0.heap.size + 2 := by simp
  obtain ⟨W0, hW0⟩ : ∃ W0, (w0.alloc (.cells #[.slice (some ⟨w.heap.size, 0, none⟩) 0 l.length] 22)).alloc (.cells #[.slice (some ⟨b, off, none⟩) l.length cap] 22) = W0 := ⟨_, rfl⟩
  rw [hW0] at bA bO hB0 hsz hownA ⊢
  clear hW0 hown0 hgrow0 hBw0
  have HI := Lib.hid hi
  have HZ0 := Lib.hid hz0
  have HZ1 := Lib.hid hz1
  have HZ2 := Lib.hid hz2
  clear hi hz0 hz1 hz2
  obtain ⟨S, hSS⟩ : ∃ S, S = w0.heap.size := ⟨_, rfl⟩
  rw [← hSS] at bA bO hsz hs1 ⊢
  clear hSS
  refine wpIn_rangeFunc_ownH rfl (by omega) (gf := 102) (lb := #[.pointer (some ⟨S + 1, 0, none⟩)]) rfl trivial (enters_of Try.func102 (by kernel_rfl) rfl)
    (sides_stops (5 - 1) (S + 1) w.heap.size b off cap l (by omega) h64 W0 (by omega) (by omega) hb (bO.cell 0) (fun k hk => ⟨(hB0.cell (p := ⟨b, off + k * 2, none⟩) hb).trans (HC.out k hk).1, (hB0.cell (p := ⟨b, off + k * 2 + 1, none⟩) hb).trans (HC.out k hk).2⟩))
    KeepsO.trans (keepsO_b (by omega) (by omega)) (Below.refl _ _) (fun _ => rfl)
    (fun pre W => ((∃ v, Boxed W S 22 v ∧ W.ownsRow w.heap.size 38 2 v pre.length (flat (stL l pre)) ∧ True) ∧ Blk W (S + 1) 22 #[.slice (some ⟨b, off, none⟩) l.length cap]) ∧ Below w.heap.size w W)
    (fun _ _ _ => False)
    (OwnFrom.and (OwnFrom.and (Own.from (holdsRow_own w.heap.size S 22 38 2 (fun pre : List Nat => pre.length) (fun pre => flat (stL l pre)) (fun _ _ => True)) _) (Own.from (blk_own _ _ _) _)) (ownFrom_below (Nat.le_refl _) (by omega)))
    (fun _ _ _ _ _ hs _ _ => hs)
    ⟨⟨⟨_, bA, hownA, trivial⟩, bO⟩, hB0⟩
    (fun x a' W => ∃ Ba, (Blk W Ba 38 (xyA (Geo.X l x)) ∧ Blk W (Ba + 1) 38 (xyA (Geo.X l ((x + 1) % l.length)))) ∧ S + 1 < Ba ∧ a' = { tmps := #[.slice (some ⟨b, off, none⟩) l.length cap, undef, .slice none 0 0, .pointer (some ⟨S, 0, none⟩), .pointer (some ⟨Ba, 0, none⟩), .pointer (some ⟨Ba + 1, 0, none⟩), .slice (some ⟨b, off, none⟩) l.length cap, .int .i64 l.length, .slice (some ⟨w.heap.size, 0, none⟩) 0 l.length, .slice (some ⟨b, off, none⟩) l.length cap, .func (.func 102) #[] #[.pointer (some ⟨S + 1, 0, none⟩)], .agg #[.int .i64 (Geo.X l x).1, .int .i64 (Geo.X l x).2], .agg #[.int .i64 (Geo.X l ((x + 1) % l.length)).1, .int .i64 (Geo.X l ((x + 1) % l.length)).2], undef, undef, undef, undef, undef, undef, undef], defers := [] })
    (fun x a' _ X Y row hs hg hr => by obtain ⟨Ba, ⟨h1, h2⟩, h4⟩ := hs; exact ⟨Ba, ⟨blk_own Ba 38 (fun (_ : Unit) => xyA (Geo.X l x)) () X Y row h1 hg (fun r e => (hr r e).2), blk_own (Ba + 1) 38 (fun (_ : Unit) => xyA (Geo.X l ((x + 1) % l.length))) () X Y row h2 hg (fun r e => (hr r e).2)⟩, h4⟩)
    ?assign ?body ?done ?stop
  case assign =>
    rintro lp pre x W K ⟨⟨⟨v, bv, hrow, _⟩, b0⟩, hB1⟩ hK
    have hsW := hB1.size
    have hl1 := b0.lt
    dsimp only [sideEnc]
    gi_wp2_with (rw [Oper.semAt_eq _ _ _ (fun c h => by cases h)]; go_simp; try go_bits)
    refine hK _ _ (((KeepsOthers.alloc _ _).trans (KeepsOthers.alloc _ _)).from _) (((KeepsO.refl _ _ W).alloc hsW (by omega) _).alloc (by simp; omega) (by simp; omega) _) ⟨⟨⟨v, (bv.alloc _).alloc _, (hrow.alloc _).alloc _, trivial⟩, (b0.alloc _).alloc _⟩, (hB1.alloc hsW _).alloc (by simp; omega) _⟩ ⟨W.heap.size, ⟨(Blk.new W 38 _).alloc _, ?_⟩, ?_, rfl⟩
    · have := Blk.new (W.alloc (.cells #[.int .i64 (Geo.X l x).1, .int .i64 (Geo.X l x).2] 38)) 38 (xyA (Geo.X l ((x + 1) % l.length)))
      rwa [World.size_alloc] at this
    · exact hl1
  case body =>
    rintro lp pre x a' W hlp ⟨r, hr⟩ ⟨⟨⟨v, bv, hrow, _⟩, b0⟩, hB1⟩ ⟨Ba, ⟨b3, b4⟩, hBa, rfl⟩ hlt
    have HS := Lib.hid (stL_snoc l pre x)
    obtain ⟨a1, a2, a3, a4⟩ := in_all HIN.out x
    obtain ⟨a5, a6, a7, a8⟩ := in_all HIN.out ((x + 1) % l.length)
    have HE : Hid (Geo.sub (Geo.X l ((x + 1) % l.length)) (Geo.X l x) = ((Geo.X l ((x + 1) % l.length)).1 - (Geo.X l x).1, (Geo.X l ((x + 1) % l.length)).2 - (Geo.X l x).2)) := Lib.hid rfl
    have d3 := b3.cell 0
    have d4 := b3.cell 1
    have d5 := b4.cell 0
    have d6 := b4.cell 1
    simp only [xyA, List.getElem?_toArray, List.getElem?_cons_zero, List.getElem?_cons_succ] at d3 d4 d5 d6
    have d1 := bv.cell
    have hlv := bv.lt
    have hl3 := b3.lt
    have hl4 := b4.lt
    have hl0 := b0.lt
    have hsW := hB1.size
    have hSS : w.heap.size ≤ S := hs1
    generalize hX1 : Geo.X l x = x1 at *
    generalize hX2 : Geo.X l ((x + 1) % l.length) = x2 at *
    clear hX1 hX2
    have hmix : Try.prog.follows .mixedOrders = true := by kernel_rfl
    gi_wp2
    refine wpIn_region_any hmix ?_
    change wpAnyIn _ _ _ _ _ _ _ _ _ (World.drew _)
    have hnr : some S ≠ v.ownBlock := Boxed.not_row bv (by decide) hrow
    refine wpAnyIn_ready (rs := [0, 1, 2]) (by decide +kernel) (by simp) ?_
    refine AllReadyIn.cons rfl (fun K hK => ?_) ?_
    · go_simp
      refine hK _ _ ?_
      clear hK K
      refine wpAnyIn_ready (rs := [1, 2]) (by decide +kernel) (by simp) ?_
      refine AllReadyIn.cons rfl (fun K hK => ?_) ?_
      · go_simp
        refine hK _ _ ?_
        clear hK K
        refine wpAnyIn_ready (rs := [2]) (by decide +kernel) (by simp) ?_
        refine AllReadyIn.cons rfl (fun K hK => ?_) AllReadyIn.nil
        go_simp
        refine hK _ _ ?_
        clear hK K
        refine wpAnyIn_ready (rs := [3]) (by decide +kernel) (by simp) ?_
        refine AllReadyIn.cons rfl (fun K hK => ?_) AllReadyIn.nil
        go_simp
        refine ⟨trivial, (CallsIn.inRound lp (callsIn_wide.2 (minus_any _ _ _ _ (by omega) (by omega) (by omega) (by omega) (by omega) (by omega) (by omega) (by omega) _))).mono ?_⟩
        rintro e w' ⟨rfl, hb'⟩
        have hbW : Below W.heap.size W w' := ((Below.refl W.heap.size W).drew).trans hb'
        have hrow1 := own_keep hrow hbW
        have hrow2 := hrow1.alloc (.cells #[.int .i64 (x2.1 - x1.1), .int .i64 (x2.2 - x1.2)] 38)
        have bv2 : Boxed w' S 22 v := (hbW.block S hlv).trans bv
        have d9 := bv2.cell
        have d10 := (bv2.alloc (.cells #[.int .i64 (x2.1 - x1.1), .int .i64 (x2.2 - x1.2)] 38)).cell
        have hsw' : w.heap.size ≤ w'.heap.size := Nat.le_trans hsW hbW.size
        dsimp only
        refine hK _ _ ?_
        clear hK K
        refine wpAnyIn_ready (rs := [4]) (by decide +kernel) (by simp) ?_
        refine AllReadyIn.cons rfl (fun K hK => ?_) AllReadyIn.nil
        go_simp
        refine hK _ _ ?_
        clear hK K
        refine wpAnyIn_ready (rs := [5]) (by decide +kernel) (by simp) ?_
        refine AllReadyIn.cons rfl (fun K hK => ?_) AllReadyIn.nil
        refine step_append_in rfl (.tmp 13) (.tmp 17) 22 rfl w.heap.size 38 i0 _ 2 16 Try.underlying22 HI.out HZ0.out HZ1.out HZ2.out rfl (by decide) v pre.length (flat (stL l pre)) rfl hrow2 ⟨w'.heap.size, 0, none⟩ 1 1 [.int .i64 (x2.1 - x1.1), .int .i64 (x2.2 - x1.2)] rfl rfl (new_cells w' _ _) (one_two _ _) (by unfold maxLen; omega) (by omega) (by simp; omega) ?_
        intro v' w4 hown' hgrow
        obtain ⟨g4, cp4, rfl⟩ := ownsRow_succ hown'
        obtain ⟨k1, k2, k3, k4, k5⟩ := Boxed.appended bv2 (by decide) hrow1 hsw' hSS hown' hgrow
        have k6 := k1.cell
        have k7 := k1.frozen
        refine hK _ _ ?_
        clear hK K
        refine wpAnyIn_ready (rs := [6]) (by decide +kernel) (by simp) ?_
        refine AllReadyIn.cons rfl (fun K hK => ?_) AllReadyIn.nil
        go_simp
        refine hK _ _ ?_
        clear hK K
        refine wpAnyIn_done (by decide +kernel) ?_ _
        gi_wp2
        have b6 : Boxed w' (S + 1) 22 (.slice (some ⟨b, off, none⟩) l.length cap) := b0.below hbW hl0
        have b7 : Boxed w4 (S + 1) 22 (.slice (some ⟨b, off, none⟩) l.length cap) := (b6.alloc _).kept hgrow (b6.not_row (by decide) hrow1)
        have b8 := Blk.far (show Blk w4 (S + 1) 22 #[.slice (some ⟨b, off, none⟩) l.length cap] from b7) (p := ⟨S, 0, none⟩) (by simp) (.slice (some ⟨g4, 0, none⟩) (pre.length + 1) cp4)
        have k8 := (hbW.mono hsW).trans k5
        have k9 : (w4.setCell ⟨S, 0, none⟩ (.slice (some ⟨g4, 0, none⟩) (pre.length + 1) cp4)).ownsRow w.heap.size 38 2 (.slice (some ⟨g4, 0, none⟩) (pre.length + 1) cp4) (pre ++ [x]).length (flat (stL l (pre ++ [x]))) := by
          rw [HS.out, HE.out, flat_append, List.length_append]
          exact k3
        exact ⟨(keepsFrom_below hbW).trans (k4.from _), ⟨k8, b8.trans b0.symm⟩, ⟨⟨_, k2, k9, trivial⟩, b8⟩, hB1.trans k8⟩
      · refine AllReadyIn.cons rfl (fun K hK => ?_) AllReadyIn.nil
        go_simp
        refine hK _ _ ?_
        clear hK K
        refine wpAnyIn_ready (rs := [1]) (by decide +kernel) (by simp) ?_
        refine AllReadyIn.cons rfl (fun K hK => ?_) AllReadyIn.nil
        go_simp
        refine hK _ _ ?_
        clear hK K
        refine wpAnyIn_ready (rs := [3]) (by decide +kernel) (by simp) ?_
        refine AllReadyIn.cons rfl (fun K hK => ?_) AllReadyIn.nil
        go_simp
        refine ⟨trivial, (CallsIn.inRound lp (callsIn_wide.2 (minus_any _ _ _ _ (by omega) (by omega) (by omega) (by omega) (by omega) (by omega) (by omega) (by omega) _))).mono ?_⟩
        rintro e w' ⟨rfl, hb'⟩
        have hbW : Below W.heap.size W w' := ((Below.refl W.heap.size W).drew).trans hb'
        have hrow1 := own_keep hrow hbW
        have hrow2 := hrow1.alloc (.cells #[.int .i64 (x2.1 - x1.1), .int .i64 (x2.2 - x1.2)] 38)
        have bv2 : Boxed w' S 22 v := (hbW.block S hlv).trans bv
        have d9 := bv2.cell
        have d10 := (bv2.alloc (.cells #[.int .i64 (x2.1 - x1.1), .int .i64 (x2.2 - x1.2)] 38)).cell
        have hsw' : w.heap.size ≤ w'.heap.size := Nat.le_trans hsW hbW.size
        dsimp only
        refine hK _ _ ?_
        clear hK K
        refine wpAnyIn_ready (rs := [4]) (by decide +kernel) (by simp) ?_
        refine AllReadyIn.cons rfl (fun K hK => ?_) AllReadyIn.nil
        go_simp
        refine hK _ _ ?_
        clear hK K
        refine wpAnyIn_ready (rs := [5]) (by decide +kernel) (by simp) ?_
        refine AllReadyIn.cons rfl (fun K hK => ?_) AllReadyIn.nil
        refine step_append_in rfl (.tmp 13) (.tmp 17) 22 rfl w.heap.size 38 i0 _ 2 16 Try.underlying22 HI.out HZ0.out HZ1.out HZ2.out rfl (by decide) v pre.length (flat (stL l pre)) rfl hrow2 ⟨w'.heap.size, 0, none⟩ 1 1 [.int .i64 (x2.1 - x1.1), .int .i64 (x2.2 - x1.2)] rfl rfl (new_cells w' _ _) (one_two _ _) (by unfold maxLen; omega) (by omega) (by simp; omega) ?_
        intro v' w4 hown' hgrow
        obtain ⟨g4, cp4, rfl⟩ := ownsRow_succ hown'
        obtain ⟨k1, k2, k3, k4, k5⟩ := Boxed.appended bv2 (by decide) hrow1 hsw' hSS hown' hgrow
        have k6 := k1.cell
        have k7 := k1.frozen
        refine hK _ _ ?_
        clear hK K
        refine wpAnyIn_ready (rs := [6]) (by decide +kernel) (by simp) ?_
        refine AllReadyIn.cons rfl (fun K hK => ?_) AllReadyIn.nil
        go_simp
        refine hK _ _ ?_
        clear hK K
        refine wpAnyIn_done (by decide +kernel) ?_ _
        gi_wp2
        have b6 : Boxed w' (S + 1) 22 (.slice (some ⟨b, off, none⟩) l.length cap) := b0.below hbW hl0
        have b7 : Boxed w4 (S + 1) 22 (.slice (some ⟨b, off, none⟩) l.length cap) := (b6.alloc _).kept hgrow (b6.not_row (by decide) hrow1)
        have b8 := Blk.far (show Blk w4 (S + 1) 22 #[.slice (some ⟨b, off, none⟩) l.length cap] from b7) (p := ⟨S, 0, none⟩) (by simp) (.slice (some ⟨g4, 0, none⟩) (pre.length + 1) cp4)
        have k8 := (hbW.mono hsW).trans k5
        have k9 : (w4.setCell ⟨S, 0, none⟩ (.slice (some ⟨g4, 0, none⟩) (pre.length + 1) cp4)).ownsRow w.heap.size 38 2 (.slice (some ⟨g4, 0, none⟩) (pre.length + 1) cp4) (pre ++ [x]).length (flat (stL l (pre ++ [x]))) := by
          rw [HS.out, HE.out, flat_append, List.length_append]
          exact k3
        exact ⟨(keepsFrom_below hbW).trans (k4.from _), ⟨k8, b8.trans b0.symm⟩, ⟨⟨_, k2, k9, trivial⟩, b8⟩, hB1.trans k8⟩
    · refine AllReadyIn.cons rfl (fun K hK => ?_) ?_
      · go_simp
        refine hK _ _ ?_
        clear hK K
        refine wpAnyIn_ready (rs := [0, 2]) (by decide +kernel) (by simp) ?_
        refine AllReadyIn.cons rfl (fun K hK => ?_) ?_
        · go_simp
          refine hK _ _ ?_
          clear hK K
          refine wpAnyIn_ready (rs := [2]) (by decide +kernel) (by simp) ?_
          refine AllReadyIn.cons rfl (fun K hK => ?_) AllReadyIn.nil
          go_simp
          refine hK _ _ ?_
          clear hK K
          refine wpAnyIn_ready (rs := [3]) (by decide +kernel) (by simp) ?_
          refine AllReadyIn.cons rfl (fun K hK => ?_) AllReadyIn.nil
          go_simp
          refine ⟨trivial, (CallsIn.inRound lp (callsIn_wide.2 (minus_any _ _ _ _ (by omega) (by omega) (by omega) (by omega) (by omega) (by omega) (by omega) (by omega) _))).mono ?_⟩
          rintro e w' ⟨rfl, hb'⟩
          have hbW : Below W.heap.size W w' := ((Below.refl W.heap.size W).drew).trans hb'
          have hrow1 := own_keep hrow hbW
          have hrow2 := hrow1.alloc (.cells #[.int .i64 (x2.1 - x1.1), .int .i64 (x2.2 - x1.2)] 38)
          have bv2 : Boxed w' S 22 v := (hbW.block S hlv).trans bv
          have d9 := bv2.cell
          have d10 := (bv2.alloc (.cells #[.int .i64 (x2.1 - x1.1), .int .i64 (x2.2 - x1.2)] 38)).cell
          have hsw' : w.heap.size ≤ w'.heap.size := Nat.le_trans hsW hbW.size
          dsimp only
          refine hK _ _ ?_
          clear hK K
          refine wpAnyIn_ready (rs := [4]) (by decide +kernel) (by simp) ?_
          refine AllReadyIn.cons rfl (fun K hK => ?_) AllReadyIn.nil
          go_simp
          refine hK _ _ ?_
          clear hK K
          refine wpAnyIn_ready (rs := [5]) (by decide +kernel) (by simp) ?_
          refine AllReadyIn.cons rfl (fun K hK => ?_) AllReadyIn.nil
          refine step_append_in rfl (.tmp 13) (.tmp 17) 22 rfl w.heap.size 38 i0 _ 2 16 Try.underlying22 HI.out HZ0.out HZ1.out HZ2.out rfl (by decide) v pre.length (flat (stL l pre)) rfl hrow2 ⟨w'.heap.size, 0, none⟩ 1 1 [.int .i64 (x2.1 - x1.1), .int .i64 (x2.2 - x1.2)] rfl rfl (new_cells w' _ _) (one_two _ _) (by unfold maxLen; omega) (by omega) (by simp; omega) ?_
          intro v' w4 hown' hgrow
          obtain ⟨g4, cp4, rfl⟩ := ownsRow_succ hown'
          obtain ⟨k1, k2, k3, k4, k5⟩ := Boxed.appended bv2 (by decide) hrow1 hsw' hSS hown' hgrow
          have k6 := k1.cell
          have k7 := k1.frozen
          refine hK _ _ ?_
          clear hK K
          refine wpAnyIn_ready (rs := [6]) (by decide +kernel) (by simp) ?_
          refine AllReadyIn.cons rfl (fun K hK => ?_) AllReadyIn.nil
          go_simp
          refine hK _ _ ?_
          clear hK K
          refine wpAnyIn_done (by decide +kernel) ?_ _
          gi_wp2
          have b6 : Boxed w' (S + 1) 22 (.slice (some ⟨b, off, none⟩) l.length cap) := b0.below hbW hl0
          have b7 : Boxed w4 (S + 1) 22 (.slice (some ⟨b, off, none⟩) l.length cap) := (b6.alloc _).kept hgrow (b6.not_row (by decide) hrow1)
          have b8 := Blk.far (show Blk w4 (S + 1) 22 #[.slice (some ⟨b, off, none⟩) l.length cap] from b7) (p := ⟨S, 0, none⟩) (by simp) (.slice (some ⟨g4, 0, none⟩) (pre.length + 1) cp4)
          have k8 := (hbW.mono hsW).trans k5
          have k9 : (w4.setCell ⟨S, 0, none⟩ (.slice (some ⟨g4, 0, none⟩) (pre.length + 1) cp4)).ownsRow w.heap.size 38 2 (.slice (some ⟨g4, 0, none⟩) (pre.length + 1) cp4) (pre ++ [x]).length (flat (stL l (pre ++ [x]))) := by
            rw [HS.out, HE.out, flat_append, List.length_append]
            exact k3
          exact ⟨(keepsFrom_below hbW).trans (k4.from _), ⟨k8, b8.trans b0.symm⟩, ⟨⟨_, k2, k9, trivial⟩, b8⟩, hB1.trans k8⟩
        · refine AllReadyIn.cons rfl (fun K hK => ?_) AllReadyIn.nil
          go_simp
          refine hK _ _ ?_
          clear hK K
          refine wpAnyIn_ready (rs := [0, 3]) (by decide +kernel) (by simp) ?_
          refine AllReadyIn.cons rfl (fun K hK => ?_) ?_
          · go_simp
            refine hK _ _ ?_
            clear hK K
            refine wpAnyIn_ready (rs := [3]) (by decide +kernel) (by simp) ?_
            refine AllReadyIn.cons rfl (fun K hK => ?_) AllReadyIn.nil
            go_simp
            refine ⟨trivial, (CallsIn.inRound lp (callsIn_wide.2 (minus_any _ _ _ _ (by omega) (by omega) (by omega) (by omega) (by omega) (by omega) (by omega) (by omega) _))).mono ?_⟩
            rintro e w' ⟨rfl, hb'⟩
            have hbW : Below W.heap.size W w' := ((Below.refl W.heap.size W).drew).trans hb'
            have hrow1 := own_keep hrow hbW
            have hrow2 := hrow1.alloc (.cells #[.int .i64 (x2.1 - x1.1), .int .i64 (x2.2 - x1.2)] 38)
            have bv2 : Boxed w' S 22 v := (hbW.block S hlv).trans bv
            have d9 := bv2.cell
            have d10 := (bv2.alloc (.cells #[.int .i64 (x2.1 - x1.1), .int .i64 (x2.2 - x1.2)] 38)).cell
            have hsw' : w.heap.size ≤ w'.heap.size := Nat.le_trans hsW hbW.size
            dsimp only
            refine hK _ _ ?_
            clear hK K
            refine wpAnyIn_ready (rs := [4]) (by decide +kernel) (by simp) ?_
            refine AllReadyIn.cons rfl (fun K hK => ?_) AllReadyIn.nil
            go_simp
            refine hK _ _ ?_
            clear hK K
            refine wpAnyIn_ready (rs := [5]) (by decide +kernel) (by simp) ?_
            refine AllReadyIn.cons rfl (fun K hK => ?_) AllReadyIn.nil
            refine step_append_in rfl (.tmp 13) (.tmp 17) 22 rfl w.heap.size 38 i0 _ 2 16 Try.underlying22 HI.out HZ0.out HZ1.out HZ2.out rfl (by decide) v pre.length (flat (stL l pre)) rfl hrow2 ⟨w'.heap.size, 0, none⟩ 1 1 [.int .i64 (x2.1 - x1.1), .int .i64 (x2.2 - x1.2)] rfl rfl (new_cells w' _ _) (one_two _ _) (by unfold maxLen; omega) (by omega) (by simp; omega) ?_
            intro v' w4 hown' hgrow
            obtain ⟨g4, cp4, rfl⟩ := ownsRow_succ hown'
            obtain ⟨k1, k2, k3, k4, k5⟩ := Boxed.appended bv2 (by decide) hrow1 hsw' hSS hown' hgrow
            have k6 := k1.cell
            have k7 := k1.frozen
            refine hK _ _ ?_
            clear hK K
            refine wpAnyIn_ready (rs := [6]) (by decide +kernel) (by simp) ?_
            refine AllReadyIn.cons rfl (fun K hK => ?_) AllReadyIn.nil
            go_simp
            refine hK _ _ ?_
            clear hK K
            refine wpAnyIn_done (by decide +kernel) ?_ _
            gi_wp2
            have b6 : Boxed w' (S + 1) 22 (.slice (some ⟨b, off, none⟩) l.length cap) := b0.below hbW hl0
            have b7 : Boxed w4 (S + 1) 22 (.slice (some ⟨b, off, none⟩) l.length cap) := (b6.alloc _).kept hgrow (b6.not_row (by decide) hrow1)
            have b8 := Blk.far (show Blk w4 (S + 1) 22 #[.slice (some ⟨b, off, none⟩) l.length cap] from b7) (p := ⟨S, 0, none⟩) (by simp) (.slice (some ⟨g4, 0, none⟩) (pre.length + 1) cp4)
            have k8 := (hbW.mono hsW).trans k5
            have k9 : (w4.setCell ⟨S, 0, none⟩ (.slice (some ⟨g4, 0, none⟩) (pre.length + 1) cp4)).ownsRow w.heap.size 38 2 (.slice (some ⟨g4, 0, none⟩) (pre.length + 1) cp4) (pre ++ [x]).length (flat (stL l (pre ++ [x]))) := by
              rw [HS.out, HE.out, flat_append, List.length_append]
              exact k3
            exact ⟨(keepsFrom_below hbW).trans (k4.from _), ⟨k8, b8.trans b0.symm⟩, ⟨⟨_, k2, k9, trivial⟩, b8⟩, hB1.trans k8⟩
          · refine AllReadyIn.cons rfl (fun K hK => ?_) AllReadyIn.nil
            go_simp
            refine ⟨trivial, (CallsIn.inRound lp (callsIn_wide.2 (minus_any _ _ _ _ (by omega) (by omega) (by omega) (by omega) (by omega) (by omega) (by omega) (by omega) _))).mono ?_⟩
            rintro e w' ⟨rfl, hb'⟩
            have hbW : Below W.heap.size W w' := ((Below.refl W.heap.size W).drew).trans hb'
            have hrow1 := own_keep hrow hbW
            have hrow2 := hrow1.alloc (.cells #[.int .i64 (x2.1 - x1.1), .int .i64 (x2.2 - x1.2)] 38)
            have bv2 : Boxed w' S 22 v := (hbW.block S hlv).trans bv
            have d9 := bv2.cell
            have d10 := (bv2.alloc (.cells #[.int .i64 (x2.1 - x1.1), .int .i64 (x2.2 - x1.2)] 38)).cell
            have hsw' : w.heap.size ≤ w'.heap.size := Nat.le_trans hsW hbW.size
            dsimp only
            refine hK _ _ ?_
            clear hK K
            refine wpAnyIn_ready (rs := [0, 4]) (by decide +kernel) (by simp) ?_
            refine AllReadyIn.cons rfl (fun K hK => ?_) ?_
            · go_simp
              refine hK _ _ ?_
              clear hK K
              refine wpAnyIn_ready (rs := [4]) (by decide +kernel) (by simp) ?_
              refine AllReadyIn.cons rfl (fun K hK => ?_) AllReadyIn.nil
              go_simp
              refine hK _ _ ?_
              clear hK K
              refine wpAnyIn_ready (rs := [5]) (by decide +kernel) (by simp) ?_
              refine AllReadyIn.cons rfl (fun K hK => ?_) AllReadyIn.nil
              refine step_append_in rfl (.tmp 13) (.tmp 17) 22 rfl w.heap.size 38 i0 _ 2 16 Try.underlying22 HI.out HZ0.out HZ1.out HZ2.out rfl (by decide) v pre.length (flat (stL l pre)) rfl hrow2 ⟨w'.heap.size, 0, none⟩ 1 1 [.int .i64 (x2.1 - x1.1), .int .i64 (x2.2 - x1.2)] rfl rfl (new_cells w' _ _) (one_two _ _) (by unfold maxLen; omega) (by omega) (by simp; omega) ?_
              intro v' w4 hown' hgrow
              obtain ⟨g4, cp4, rfl⟩ := ownsRow_succ hown'
              obtain ⟨k1, k2, k3, k4, k5⟩ := Boxed.appended bv2 (by decide) hrow1 hsw' hSS hown' hgrow
              have k6 := k1.cell
              have k7 := k1.frozen
              refine hK _ _ ?_
              clear hK K
              refine wpAnyIn_ready (rs := [6]) (by decide +kernel) (by simp) ?_
              refine AllReadyIn.cons rfl (fun K hK => ?_) AllReadyIn.nil
              go_simp
              refine hK _ _ ?_
              clear hK K
              refine wpAnyIn_done (by decide +kernel) ?_ _
              gi_wp2
              have b6 : Boxed w' (S + 1) 22 (.slice (some ⟨b, off, none⟩) l.length cap) := b0.below hbW hl0
              have b7 : Boxed w4 (S + 1) 22 (.slice (some ⟨b, off, none⟩) l.length cap) := (b6.alloc _).kept hgrow (b6.not_row (by decide) hrow1)
              have b8 := Blk.far (show Blk w4 (S + 1) 22 #[.slice (some ⟨b, off, none⟩) l.length cap] from b7) (p := ⟨S, 0, none⟩) (by simp) (.slice (some ⟨g4, 0, none⟩) (pre.length + 1) cp4)
              have k8 := (hbW.mono hsW).trans k5
              have k9 : (w4.setCell ⟨S, 0, none⟩ (.slice (some ⟨g4, 0, none⟩) (pre.length + 1) cp4)).ownsRow w.heap.size 38 2 (.slice (some ⟨g4, 0, none⟩) (pre.length + 1) cp4) (pre ++ [x]).length (flat (stL l (pre ++ [x]))) := by
                rw [HS.out, HE.out, flat_append, List.length_append]
                exact k3
              exact ⟨(keepsFrom_below hbW).trans (k4.from _), ⟨k8, b8.trans b0.symm⟩, ⟨⟨_, k2, k9, trivial⟩, b8⟩, hB1.trans k8⟩
            · refine AllReadyIn.cons rfl (fun K hK => ?_) AllReadyIn.nil
              go_simp
              refine hK _ _ ?_
              clear hK K
              refine wpAnyIn_ready (rs := [0]) (by decide +kernel) (by simp) ?_
              refine AllReadyIn.cons rfl (fun K hK => ?_) AllReadyIn.nil
              go_simp
              refine hK _ _ ?_
              clear hK K
              refine wpAnyIn_ready (rs := [5]) (by decide +kernel) (by simp) ?_
              refine AllReadyIn.cons rfl (fun K hK => ?_) AllReadyIn.nil
              refine step_append_in rfl (.tmp 13) (.tmp 17) 22 rfl w.heap.size 38 i0 _ 2 16 Try.underlying22 HI.out HZ0.out HZ1.out HZ2.out rfl (by decide) v pre.length (flat (stL l pre)) rfl hrow2 ⟨w'.heap.size, 0, none⟩ 1 1 [.int .i64 (x2.1 - x1.1), .int .i64 (x2.2 - x1.2)] rfl rfl (new_cells w' _ _) (one_two _ _) (by unfold maxLen; omega) (by omega) (by simp; omega) ?_
              intro v' w4 hown' hgrow
              obtain ⟨g4, cp4, rfl⟩ := ownsRow_succ hown'
              obtain ⟨k1, k2, k3, k4, k5⟩ := Boxed.appended bv2 (by decide) hrow1 hsw' hSS hown' hgrow
              have k6 := k1.cell
              have k7 := k1.frozen
              refine hK _ _ ?_
              clear hK K
              refine wpAnyIn_ready (rs := [6]) (by decide +kernel) (by simp) ?_
              refine AllReadyIn.cons rfl (fun K hK => ?_) AllReadyIn.nil
              go_simp
              refine hK _ _ ?_
              clear hK K
              refine wpAnyIn_done (by decide +kernel) ?_ _
              gi_wp2
              have b6 : Boxed w' (S + 1) 22 (.slice (some ⟨b, off, none⟩) l.length cap) := b0.below hbW hl0
              have b7 : Boxed w4 (S + 1) 22 (.slice (some ⟨b, off, none⟩) l.length cap) := (b6.alloc _).kept hgrow (b6.not_row (by decide) hrow1)
              have b8 := Blk.far (show Blk w4 (S + 1) 22 #[.slice (some ⟨b, off, none⟩) l.length cap] from b7) (p := ⟨S, 0, none⟩) (by simp) (.slice (some ⟨g4, 0, none⟩) (pre.length + 1) cp4)
              have k8 := (hbW.mono hsW).trans k5
              have k9 : (w4.setCell ⟨S, 0, none⟩ (.slice (some ⟨g4, 0, none⟩) (pre.length + 1) cp4)).ownsRow w.heap.size 38 2 (.slice (some ⟨g4, 0, none⟩) (pre.length + 1) cp4) (pre ++ [x]).length (flat (stL l (pre ++ [x]))) := by
                rw [HS.out, HE.out, flat_append, List.length_append]
                exact k3
              exact ⟨(keepsFrom_below hbW).trans (k4.from _), ⟨k8, b8.trans b0.symm⟩, ⟨⟨_, k2, k9, trivial⟩, b8⟩, hB1.trans k8⟩
      · refine AllReadyIn.cons rfl (fun K hK => ?_) AllReadyIn.nil
        go_simp
        refine hK _ _ ?_
        clear hK K
        refine wpAnyIn_ready (rs := [0, 1]) (by decide +kernel) (by simp) ?_
        refine AllReadyIn.cons rfl (fun K hK => ?_) ?_
        · go_simp
          refine hK _ _ ?_
          clear hK K
          refine wpAnyIn_ready (rs := [1]) (by decide +kernel) (by simp) ?_
          refine AllReadyIn.cons rfl (fun K hK => ?_) AllReadyIn.nil
          go_simp
          refine hK _ _ ?_
          clear hK K
          refine wpAnyIn_ready (rs := [3]) (by decide +kernel) (by simp) ?_
          refine AllReadyIn.cons rfl (fun K hK => ?_) AllReadyIn.nil
          go_simp
          refine ⟨trivial, (CallsIn.inRound lp (callsIn_wide.2 (minus_any _ _ _ _ (by omega) (by omega) (by omega) (by omega) (by omega) (by omega) (by omega) (by omega) _))).mono ?_⟩
          rintro e w' ⟨rfl, hb'⟩
          have hbW : Below W.heap.size W w' := ((Below.refl W.heap.size W).drew).trans hb'
          have hrow1 := own_keep hrow hbW
          have hrow2 := hrow1.alloc (.cells #[.int .i64 (x2.1 - x1.1), .int .i64 (x2.2 - x1.2)] 38)
          have bv2 : Boxed w' S 22 v := (hbW.block S hlv).trans bv
          have d9 := bv2.cell
          have d10 := (bv2.alloc (.cells #[.int .i64 (x2.1 - x1.1), .int .i64 (x2.2 - x1.2)] 38)).cell
          have hsw' : w.heap.size ≤ w'.heap.size := Nat.le_trans hsW hbW.size
          dsimp only
          refine hK _ _ ?_
          clear hK K
          refine wpAnyIn_ready (rs := [4]) (by decide +kernel) (by simp) ?_
          refine AllReadyIn.cons rfl (fun K hK => ?_) AllReadyIn.nil
          go_simp
          refine hK _ _ ?_
          clear hK K
          refine wpAnyIn_ready (rs := [5]) (by decide +kernel) (by simp) ?_
          refine AllReadyIn.cons rfl (fun K hK => ?_) AllReadyIn.nil
          refine step_append_in rfl (.tmp 13) (.tmp 17) 22 rfl w.heap.size 38 i0 _ 2 16 Try.underlying22 HI.out HZ0.out HZ1.out HZ2.out rfl (by decide) v pre.length (flat (stL l pre)) rfl hrow2 ⟨w'.heap.size, 0, none⟩ 1 1 [.int .i64 (x2.1 - x1.1), .int .i64 (x2.2 - x1.2)] rfl rfl (new_cells w' _ _) (one_two _ _) (by unfold maxLen; omega) (by omega) (by simp; omega) ?_
          intro v' w4 hown' hgrow
          obtain ⟨g4, cp4, rfl⟩ := ownsRow_succ hown'
          obtain ⟨k1, k2, k3, k4, k5⟩ := Boxed.appended bv2 (by decide) hrow1 hsw' hSS hown' hgrow
          have k6 := k1.cell
          have k7 := k1.frozen
          refine hK _ _ ?_
          clear hK K
          refine wpAnyIn_ready (rs := [6]) (by decide +kernel) (by simp) ?_
          refine AllReadyIn.cons rfl (fun K hK => ?_) AllReadyIn.nil
          go_simp
          refine hK _ _ ?_
          clear hK K
          refine wpAnyIn_done (by decide +kernel) ?_ _
          gi_wp2
          have b6 : Boxed w' (S + 1) 22 (.slice (some ⟨b, off, none⟩) l.length cap) := b0.below hbW hl0
          have b7 : Boxed w4 (S + 1) 22 (.slice (some ⟨b, off, none⟩) l.length cap) := (b6.alloc _).kept hgrow (b6.not_row (by decide) hrow1)
          have b8 := Blk.far (show Blk w4 (S + 1) 22 #[.slice (some ⟨b, off, none⟩) l.length cap] from b7) (p := ⟨S, 0, none⟩) (by simp) (.slice (some ⟨g4, 0, none⟩) (pre.length + 1) cp4)
          have k8 := (hbW.mono hsW).trans k5
          have k9 : (w4.setCell ⟨S, 0, none⟩ (.slice (some ⟨g4, 0, none⟩) (pre.length + 1) cp4)).ownsRow w.heap.size 38 2 (.slice (some ⟨g4, 0, none⟩) (pre.length + 1) cp4) (pre ++ [x]).length (flat (stL l (pre ++ [x]))) := by
            rw [HS.out, HE.out, flat_append, List.length_append]
            exact k3
          exact ⟨(keepsFrom_below hbW).trans (k4.from _), ⟨k8, b8.trans b0.symm⟩, ⟨⟨_, k2, k9, trivial⟩, b8⟩, hB1.trans k8⟩
        · refine AllReadyIn.cons rfl (fun K hK => ?_) AllReadyIn.nil
          go_simp
          refine hK _ _ ?_
          clear hK K
          refine wpAnyIn_ready (rs := [0, 3]) (by decide +kernel) (by simp) ?_
          refine AllReadyIn.cons rfl (fun K hK => ?_) ?_
          · go_simp
            refine hK _ _ ?_
            clear hK K
            refine wpAnyIn_ready (rs := [3]) (by decide +kernel) (by simp) ?_
            refine AllReadyIn.cons rfl (fun K hK => ?_) AllReadyIn.nil
            go_simp
            refine ⟨trivial, (CallsIn.inRound lp (callsIn_wide.2 (minus_any _ _ _ _ (by omega) (by omega) (by omega) (by omega) (by omega) (by omega) (by omega) (by omega) _))).mono ?_⟩
            rintro e w' ⟨rfl, hb'⟩
            have hbW : Below W.heap.size W w' := ((Below.refl W.heap.size W).drew).trans hb'
            have hrow1 := own_keep hrow hbW
            have hrow2 := hrow1.alloc (.cells #[.int .i64 (x2.1 - x1.1), .int .i64 (x2.2 - x1.2)] 38)
            have bv2 : Boxed w' S 22 v := (hbW.block S hlv).trans bv
            have d9 := bv2.cell
            have d10 := (bv2.alloc (.cells #[.int .i64 (x2.1 - x1.1), .int .i64 (x2.2 - x1.2)] 38)).cell
            have hsw' : w.heap.size ≤ w'.heap.size := Nat.le_trans hsW hbW.size
            dsimp only
            refine hK _ _ ?_
            clear hK K
            refine wpAnyIn_ready (rs := [4]) (by decide +kernel) (by simp) ?_
            refine AllReadyIn.cons rfl (fun K hK => ?_) AllReadyIn.nil
            go_simp
            refine hK _ _ ?_
            clear hK K
            refine wpAnyIn_ready (rs := [5]) (by decide +kernel) (by simp) ?_
            refine AllReadyIn.cons rfl (fun K hK => ?_) AllReadyIn.nil
            refine step_append_in rfl (.tmp 13) (.tmp 17) 22 rfl w.heap.size 38 i0 _ 2 16 Try.underlying22 HI.out HZ0.out HZ1.out HZ2.out rfl (by decide) v pre.length (flat (stL l pre)) rfl hrow2 ⟨w'.heap.size, 0, none⟩ 1 1 [.int .i64 (x2.1 - x1.1), .int .i64 (x2.2 - x1.2)] rfl rfl (new_cells w' _ _) (one_two _ _) (by unfold maxLen; omega) (by omega) (by simp; omega) ?_
            intro v' w4 hown' hgrow
            obtain ⟨g4, cp4, rfl⟩ := ownsRow_succ hown'
            obtain ⟨k1, k2, k3, k4, k5⟩ := Boxed.appended bv2 (by decide) hrow1 hsw' hSS hown' hgrow
            have k6 := k1.cell
            have k7 := k1.frozen
            refine hK _ _ ?_
            clear hK K
            refine wpAnyIn_ready (rs := [6]) (by decide +kernel) (by simp) ?_
            refine AllReadyIn.cons rfl (fun K hK => ?_) AllReadyIn.nil
            go_simp
            refine hK _ _ ?_
            clear hK K
            refine wpAnyIn_done (by decide +kernel) ?_ _
            gi_wp2
            have b6 : Boxed w' (S + 1) 22 (.slice (some ⟨b, off, none⟩) l.length cap) := b0.below hbW hl0
            have b7 : Boxed w4 (S + 1) 22 (.slice (some ⟨b, off, none⟩) l.length cap) := (b6.alloc _).kept hgrow (b6.not_row (by decide) hrow1)
            have b8 := Blk.far (show Blk w4 (S + 1) 22 #[.slice (some ⟨b, off, none⟩) l.length cap] from b7) (p := ⟨S, 0, none⟩) (by simp) (.slice (some ⟨g4, 0, none⟩) (pre.length + 1) cp4)
            have k8 := (hbW.mono hsW).trans k5
            have k9 : (w4.setCell ⟨S, 0, none⟩ (.slice (some ⟨g4, 0, none⟩) (pre.length + 1) cp4)).ownsRow w.heap.size 38 2 (.slice (some ⟨g4, 0, none⟩) (pre.length + 1) cp4) (pre ++ [x]).length (flat (stL l (pre ++ [x]))) := by
              rw [HS.out, HE.out, flat_append, List.length_append]
              exact k3
            exact ⟨(keepsFrom_below hbW).trans (k4.from _), ⟨k8, b8.trans b0.symm⟩, ⟨⟨_, k2, k9, trivial⟩, b8⟩, hB1.trans k8⟩
          · refine AllReadyIn.cons rfl (fun K hK => ?_) AllReadyIn.nil
            go_simp
            refine ⟨trivial, (CallsIn.inRound lp (callsIn_wide.2 (minus_any _ _ _ _ (by omega) (by omega) (by omega) (by omega) (by omega) (by omega) (by omega) (by omega) _))).mono ?_⟩
            rintro e w' ⟨rfl, hb'⟩
            have hbW : Below W.heap.size W w' := ((Below.refl W.heap.size W).drew).trans hb'
            have hrow1 := own_keep hrow hbW
            have hrow2 := hrow1.alloc (.cells #[.int .i64 (x2.1 - x1.1), .int .i64 (x2.2 - x1.2)] 38)
            have bv2 : Boxed w' S 22 v := (hbW.block S hlv).trans bv
            have d9 := bv2.cell
            have d10 := (bv2.alloc (.cells #[.int .i64 (x2.1 - x1.1), .int .i64 (x2.2 - x1.2)] 38)).cell
            have hsw' : w.heap.size ≤ w'.heap.size := Nat.le_trans hsW hbW.size
            dsimp only
            refine hK _ _ ?_
            clear hK K
            refine wpAnyIn_ready (rs := [0, 4]) (by decide +kernel) (by simp) ?_
            refine AllReadyIn.cons rfl (fun K hK => ?_) ?_
            · go_simp
              refine hK _ _ ?_
              clear hK K
              refine wpAnyIn_ready (rs := [4]) (by decide +kernel) (by simp) ?_
              refine AllReadyIn.cons rfl (fun K hK => ?_) AllReadyIn.nil
              go_simp
              refine hK _ _ ?_
              clear hK K
              refine wpAnyIn_ready (rs := [5]) (by decide +kernel) (by simp) ?_
              refine AllReadyIn.cons rfl (fun K hK => ?_) AllReadyIn.nil
              refine step_append_in rfl (.tmp 13) (.tmp 17) 22 rfl w.heap.size 38 i0 _ 2 16 Try.underlying22 HI.out HZ0.out HZ1.out HZ2.out rfl (by decide) v pre.length (flat (stL l pre)) rfl hrow2 ⟨w'.heap.size, 0, none⟩ 1 1 [.int .i64 (x2.1 - x1.1), .int .i64 (x2.2 - x1.2)] rfl rfl (new_cells w' _ _) (one_two _ _) (by unfold maxLen; omega) (by omega) (by simp; omega) ?_
              intro v' w4 hown' hgrow
              obtain ⟨g4, cp4, rfl⟩ := ownsRow_succ hown'
              obtain ⟨k1, k2, k3, k4, k5⟩ := Boxed.appended bv2 (by decide) hrow1 hsw' hSS hown' hgrow
              have k6 := k1.cell
              have k7 := k1.frozen
              refine hK _ _ ?_
              clear hK K
              refine wpAnyIn_ready (rs := [6]) (by decide +kernel) (by simp) ?_
              refine AllReadyIn.cons rfl (fun K hK => ?_) AllReadyIn.nil
              go_simp
              refine hK _ _ ?_
              clear hK K
              refine wpAnyIn_done (by decide +kernel) ?_ _
              gi_wp2
              have b6 : Boxed w' (S + 1) 22 (.slice (some ⟨b, off, none⟩) l.length cap) := b0.below hbW hl0
              have b7 : Boxed w4 (S + 1) 22 (.slice (some ⟨b, off, none⟩) l.length cap) := (b6.alloc _).kept hgrow (b6.not_row (by decide) hrow1)
              have b8 := Blk.far (show Blk w4 (S + 1) 22 #[.slice (some ⟨b, off, none⟩) l.length cap] from b7) (p := ⟨S, 0, none⟩) (by simp) (.slice (some ⟨g4, 0, none⟩) (pre.length + 1) cp4)
              have k8 := (hbW.mono hsW).trans k5
              have k9 : (w4.setCell ⟨S, 0, none⟩ (.slice (some ⟨g4, 0, none⟩) (pre.length + 1) cp4)).ownsRow w.heap.size 38 2 (.slice (some ⟨g4, 0, none⟩) (pre.length + 1) cp4) (pre ++ [x]).length (flat (stL l (pre ++ [x]))) := by
                rw [HS.out, HE.out, flat_append, List.length_append]
                exact k3
              exact ⟨(keepsFrom_below hbW).trans (k4.from _), ⟨k8, b8.trans b0.symm⟩, ⟨⟨_, k2, k9, trivial⟩, b8⟩, hB1.trans k8⟩
            · refine AllReadyIn.cons rfl (fun K hK => ?_) AllReadyIn.nil
              go_simp
              refine hK _ _ ?_
              clear hK K
              refine wpAnyIn_ready (rs := [0]) (by decide +kernel) (by simp) ?_
              refine AllReadyIn.cons rfl (fun K hK => ?_) AllReadyIn.nil
              go_simp
              refine hK _ _ ?_
              clear hK K
              refine wpAnyIn_ready (rs := [5]) (by decide +kernel) (by simp) ?_
              refine AllReadyIn.cons rfl (fun K hK => ?_) AllReadyIn.nil
              refine step_append_in rfl (.tmp 13) (.tmp 17) 22 rfl w.heap.size 38 i0 _ 2 16 Try.underlying22 HI.out HZ0.out HZ1.out HZ2.out rfl (by decide) v pre.length (flat (stL l pre)) rfl hrow2 ⟨w'.heap.size, 0, none⟩ 1 1 [.int .i64 (x2.1 - x1.1), .int .i64 (x2.2 - x1.2)] rfl rfl (new_cells w' _ _) (one_two _ _) (by unfold maxLen; omega) (by omega) (by simp; omega) ?_
              intro v' w4 hown' hgrow
              obtain ⟨g4, cp4, rfl⟩ := ownsRow_succ hown'
              obtain ⟨k1, k2, k3, k4, k5⟩ := Boxed.appended bv2 (by decide) hrow1 hsw' hSS hown' hgrow
              have k6 := k1.cell
              have k7 := k1.frozen
              refine hK _ _ ?_
              clear hK K
              refine wpAnyIn_ready (rs := [6]) (by decide +kernel) (by simp) ?_
              refine AllReadyIn.cons rfl (fun K hK => ?_) AllReadyIn.nil
              go_simp
              refine hK _ _ ?_
              clear hK K
              refine wpAnyIn_done (by decide +kernel) ?_ _
              gi_wp2
              have b6 : Boxed w' (S + 1) 22 (.slice (some ⟨b, off, none⟩) l.length cap) := b0.below hbW hl0
              have b7 : Boxed w4 (S + 1) 22 (.slice (some ⟨b, off, none⟩) l.length cap) := (b6.alloc _).kept hgrow (b6.not_row (by decide) hrow1)
              have b8 := Blk.far (show Blk w4 (S + 1) 22 #[.slice (some ⟨b, off, none⟩) l.length cap] from b7) (p := ⟨S, 0, none⟩) (by simp) (.slice (some ⟨g4, 0, none⟩) (pre.length + 1) cp4)
              have k8 := (hbW.mono hsW).trans k5
              have k9 : (w4.setCell ⟨S, 0, none⟩ (.slice (some ⟨g4, 0, none⟩) (pre.length + 1) cp4)).ownsRow w.heap.size 38 2 (.slice (some ⟨g4, 0, none⟩) (pre.length + 1) cp4) (pre ++ [x]).length (flat (stL l (pre ++ [x]))) := by
                rw [HS.out, HE.out, flat_append, List.length_append]
                exact k3
              exact ⟨(keepsFrom_below hbW).trans (k4.from _), ⟨k8, b8.trans b0.symm⟩, ⟨⟨_, k2, k9, trivial⟩, b8⟩, hB1.trans k8⟩
  case done =>
    rintro D ys W hD rfl ⟨⟨⟨v, bv, hrow, _⟩, b0⟩, hB1⟩ hK
    have q1 := bv.cell
    rw [stL_all (by omega), List.length_range] at hrow
    gi_wp2
    refine ⟨by simp, .inl ⟨_, _, rfl, run_takeDeferred hK, ?_⟩⟩
    exact ⟨_, results_tmp rfl _ _ _, _, rfl, ownsRow_putObj hrow _ hK rfl, hB1.trans (belowK_b (w := w) (Nat.le_refl _) _ D _ _ (by omega) hK rfl rfl)⟩
  case stop =>
    rintro D c pre W _ _ h _
    exact h.elim

theorem steps_any (b off cap : Nat) (l : List Geo.XY) (h3 : 3 ≤ l.length) (h64 : l.length ≤ 64) (hin : AllIn l) (w : World) (hb : b < w.heap.size)
    (hc : ∀ k, k < l.length → w.cell? ⟨b, off + k * 2, none⟩ = some (.int .i64 (Geo.X l k).1) ∧ w.cell? ⟨b, off + k * 2 + 1, none⟩ = some (.int .i64 (Geo.X l k).2)) :
    Calls Try.prog 89 #[.slice (some ⟨b, off, none⟩) l.length cap] w fun e W' => ∃ v, e = .returned v ∧ W'.ownsRow w.heap.size 38 2 v l.length (flat (Geo.stepsL l)) ∧ Below w.heap.size w W' :=
  callsIn_wide.1 (steps_in b off cap l h3 h64 hin w hb hc)
end Go.Proofs.Ytflkhjicgojcbaa
