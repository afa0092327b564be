/- decoded, Decode of the program. -/
import Derived.Test.YtalfffkcmddakabW7
import Derived.Test.YtalfffkcmddakabW1
import Derived.OwnWalkIn
import Derived.Deep.RegionHeld3
namespace Go.Proofs.Ytalfffkcmddakab
open Go.RowKit Go.Shelf
attribute [local go_sem] Oper.semAt_some

theorem blk_own {β : Type} (B : Nat) (t : TypeId) (f : β → Array Value) : Own (fun s W => Blk W B t (f s)) := fun s X Y row hs hg hrow =>
  (hg.block B hs.lt (fun e' => by obtain ⟨_, ho, hc⟩ := hrow B e'.symm; rw [show X.heap[B]? = _ from hs] at ho; cases ho; cases hc)).trans hs
theorem keepsFrom_below {B : Nat} {W W' : World} (h : Below W.heap.size W W') : KeepsFrom B W W' :=
  ⟨h.size, fun k _ _ hk _ => (h.block k (Array.getElem?_eq_some_iff.1 hk).1).trans hk⟩
theorem keepsC_b {n₀ Bs : Nat} {w : World} (hn : n₀ ≤ w.heap.size) (hBs : Bs + 1 < w.heap.size) (W : World) (l : Nat) (o o' : Obj) (hl : w.heap.size ≤ l) (h : W.heap[l]? = some o) (h1 : o.isCells = false) (h2 : o.isWalk = false) : KeepsC n₀ Bs W (W.putObj l o') :=
  ⟨belowK_b hn W l o o' hl h h1 h2, World.putObj_heap_other (by omega), World.putObj_heap_other (by omega)⟩
/-- the entries that have come -/
def dF {m : Nat} (l : Pl.Bs) (pre : List (Fin m)) : List Pl.En := pre.map fun x => Pl.de1 (Pl.pce l x.1)
theorem dF_snoc {m : Nat} (l : Pl.Bs) (pre : List (Fin m)) (x : Fin m) : dF l (pre ++ [x]) = dF l pre ++ [Pl.de1 (Pl.pce l x.1)] := by unfold dF; simp
theorem dF_all (l : Pl.Bs) (m : Nat) : dF l (List.finRange m) = Pl.decN l m := by
  unfold dF Pl.decN
  apply List.ext_getElem
  · simp
  · intro i h1 h2
    simp
theorem dF_len {m : Nat} (l : Pl.Bs) (pre : List (Fin m)) : (dF l pre).length = pre.length := by unfold dF; simp
theorem pce_len {l : Pl.Bs} {m k : Nat} (h : l.length = m * 13) (hk : k < m) : (Pl.pce l k).length = 13 := by unfold Pl.pce; rw [List.length_take, List.length_drop]; omega
theorem pce_in {W : World} {b off k : Nat} {l : Pl.Bs} (h : ∀ (i : Nat) (hi : i < l.length), W.rangeAt b (off + i * 1) (u8L l[i])) : In13 W b (off + k * 13) (Pl.pce l k) := fun i hi => by
  have h1 : i < 13 ∧ k * 13 + i < l.length := by
    have := hi
    unfold Pl.pce at this
    rw [List.length_take, List.length_drop] at this
    omega
  have e : (Pl.pce l k)[i] = l[k * 13 + i]'h1.2 := by
    show (List.take 13 (List.drop (k * 13) l))[i]'(by rw [List.length_take, List.length_drop]; omega) = _
    rw [List.getElem_take, List.getElem_drop]
  have h2 := h (k * 13 + i) h1.2
  rw [e, show off + k * 13 + i * 1 = off + (k * 13 + i) * 1 by omega]
  exact h2
theorem rows8_cases {W : World} {A : Option Addr} {l : Pl.Bs} {m : Nat} (h : Rows u8L 1 W A l) (hm : l.length = m * 13) : ∃ b off, (0 < m → A = some ⟨b, off, none⟩ ∧ b < W.heap.size) ∧ (0 < m → ∀ (i : Nat) (hi : i < l.length), W.rangeAt b (off + i * 1) (u8L l[i])) := by
  rcases h with h | ⟨b, off, h1, h2, h3⟩
  · subst h
    exact ⟨0, 0, fun h => by simp at hm; omega, fun h => by simp at hm; omega⟩
  · exact ⟨b, off, fun _ => ⟨h1, h2⟩, fun _ => h3⟩
theorem wpOpIn_goE {F : Fence} {n : Nat} {P : Program} {ops : Array Oper} {Q : Exit → Act → World → Prop} {i : Nat} {o : Oper} {K : Act → World → Prop} {a : Act} {w : World} (ho : ops[i]? = some o) (hw : Region.wanted o (yielded ops a.tmps) = true)
    (h : ∀ K' : Act → World → Prop, (∀ a w, K a w → K' a w) → Oper.wpIn F n P o a w K' Q) : wpOpIn F n P ops Q i K a w :=
  wpOpIn_step ho fun K' hK' => by rw [if_pos hw]; exact h K' hK'
theorem wpIn_appendE {F : Fence} {n : Nat} {P : Program} (w : World) {o : Oper} {a : Act} {K : Act → World → Prop} {Q : Exit → Act → World → Prop}
    (s x : Operand) (t : TypeId) (hop : o.op = Op.call { callee := Callee.builtin Builtin.append, args := #[s, x], argTypes := #[t, t] })
    (base : Nat) (e : TypeId) (i : TypeInfo) (z : Value) (size bytes : Nat) (h1 : P.underlying t = some (.slice e)) (h2 : P.info? e = some i) (h3 : i.zero = some z) (h4 : i.size = size) (h5 : i.bytes = bytes) (h6 : z.cells.size = size) (h7 : 0 < size)
    (v : Value) (k : Nat) (xs : List Value) (hs : a.eval s = v) (hown : w.ownsRow base e size v k xs) (ad : Addr) (m c : Nat) (news : List Value) (hx : a.eval x = .slice (some ad) m c) (hn : news.length = m * size)
    (hc : ∀ j u, news[j]? = some u → w.cell? (ad.add j) = some u) (h1c : ∀ u ∈ news, u.oneCell' = true) (b1 : k + m ≤ maxLen) (b2 : (k + m) * bytes ≤ 140737488355328) (b3 : base ≤ w.heap.size)
    (hK : ∀ v' w', w'.ownsRow base e size v' (k + m) (xs ++ news) → w.grownBy w' v.ownBlock → K (a.put o.dst v') w') :
    Oper.wpIn F n P o a w K Q := by
  obtain ⟨v', w', hrun, r1, r2, _⟩ := run_append_own (P := P) w base t o.type e i z size bytes h1 h2 h3 h4 h5 h6 h7 v k xs hown ad m c news hn hc h1c b1 b2 b3
  unfold Oper.wpIn
  refine ⟨?_, ?_⟩
  · simp [Oper.about, hop, resolve, Target.leads, Sem.run_pure]
  · rw [Oper.semAt_plain F _ _ (by rw [hop]; intro c hc'; cases hc')]
    simp [execOp, hop, resolve, invoke, builtin, hs, hx, hrun, Result.andThen]
    exact hK _ _ (r1) r2
set_option maxRecDepth 100000 in
set_option maxHeartbeats 8000000 in
theorem decoded_in (A : Option Addr) (l : Pl.Bs) (c n m : Nat) (hn : l.length = n) (hM : n = m * 13) (hm : m ≤ 200) (hnc : n ≤ c) (ok : Bool) (hok : (Pl.vB (Pl.decN l m) && decide (Pl.srt (Pl.decN l m) = Pl.decN l m)) = ok) (w : World) (hI : Rows u8L 1 w A l) :
    CallsIn Fence.wide 5 Try.prog 59 #[.slice A n c] w fun e w' => ∃ v, e = .returned (.tuple #[v, .bool ok]) ∧ w'.ownsRow w.heap.size 72 4 v m (flt enL (Pl.decN l m)) ∧ Below w.heap.size w w' := by
  have t1 : Int.tmod (n : Int) 13 = 0 := by rw [Int.tmod_eq_emod_of_nonneg (by omega)]; omega
  have t2 : ¬ (2600 : Int) < (n : Int) := by omega
  have d2 : decide ((2600 : Int) < (n : Int)) = false := by simp; omega
  obtain ⟨b, off, hA, hB⟩ := rows8_cases hI (hn.trans hM)
  have HA := Lib.hid hA
  have HBY := Lib.hid hB
  have HM := Lib.hid hM
  have HN := Lib.hid hn
  have HOK := Lib.hid hok
  have HNC := Lib.hid hnc
  clear hA hB hI hM hn hok hnc
  obtain ⟨i0, hi, hz0, hz1, hz2⟩ := info_parts infoEn3
  refine callsIn_of_wp_marks Try.func59 rfl trivial ?_ rfl
  simp only [Try.ntmps59, List.size_toArray, List.length_cons, List.length_nil, Nat.reduceAdd, Nat.reduceSub, Array.replicate_succ, Array.replicate_zero, List.push_toArray, List.append_toArray, List.nil_append, List.cons_append]
  gi_wp2_with (refine ⟨trivial, ?_⟩; gi_at_call 71; refine (chunk_in _ _ _ _ _).mono ?_; rintro e w' ⟨rfl, rfl⟩)
  have bO := ((Boxed.new w 70 (.slice none 0 0)).alloc (.cells #[.slice A n c] 29)).alloc (.cells #[.int .i64 13] 3)
  have bS := (Blk.new (w.alloc (.cells #[.slice none 0 0] 70)) 29 #[.slice A n c]).alloc (.cells #[.int .i64 13] 3)
  have bT := Blk.new ((w.alloc (.cells #[.slice none 0 0] 70)).alloc (.cells #[.slice A n c] 29)) 3 #[.int .i64 13]
  have hB0 : Below w.heap.size w (((w.alloc (.cells #[.slice none 0 0] 70)).alloc (.cells #[.slice A n c] 29)).alloc (.cells #[.int .i64 13] 3)) := (((Below.refl _ w).alloc (Nat.le_refl _) _).alloc (by simp) _).alloc (by simp; omega) _
  have hsz : (((w.alloc (.cells #[.slice none 0 0] 70)).alloc (.cells #[.slice A n c] 29)).alloc (.cells #[.int .i64 13] 3)).heap.size = w.heap.size + 3 := by simp
  simp only [World.size_alloc] at bS bT
  obtain ⟨W0, hW0⟩ : ∃ W0, ((w.alloc (.cells #[.slice none 0 0] 70)).alloc (.cells #[.slice A n c] 29)).alloc (.cells #[.int .i64 13] 3) = W0 := ⟨_, rfl⟩
  rw [hW0] at bO bS bT hB0 hsz ⊢
  clear hW0
  refine wpIn_rangeFunc_ownG rfl (by omega) (gf := 83) (lb := #[.pointer (some ⟨w.heap.size + 1, 0, none⟩), .pointer (some ⟨w.heap.size + 1 + 1, 0, none⟩)]) rfl trivial (enters_of Try.func83 (by kernel_rfl) rfl)
    (chunk_stops (5 - 1) (by omega) (w.heap.size + 1) w.heap.size b off c m n A (fun h => (HA.out h).1) HM.out hm HNC.out W0 (by omega) (bS.cell 0) (bT.cell 0))
    KeepsC.trans (keepsC_b (by omega) (by omega)) (Below.refl _ _) (fun _ => rfl)
    (fun pre W => (((∃ v, Boxed W w.heap.size 70 v ∧ W.ownsRow w.heap.size 72 4 v pre.length (flt enL (dF l pre)) ∧ True) ∧ Blk W (w.heap.size + 1) 29 #[.slice A n c]) ∧ Blk W (w.heap.size + 1 + 1) 3 #[.int .i64 13]) ∧ Below w.heap.size w W)
    (fun _ _ _ => False)
    (OwnFrom.and (OwnFrom.and (OwnFrom.and (Own.from (holdsRow_own w.heap.size w.heap.size 70 72 4 (fun pre => pre.length) (fun pre => flt enL (dF l pre)) (fun _ _ => True)) _) (Own.from (blk_own _ _ _) _)) (Own.from (blk_own _ _ _) _)) (ownFrom_below (Nat.le_refl _) (by omega)))
    (fun _ _ _ _ _ hs _ _ => hs)
    ⟨⟨⟨⟨_, bO, World.ownsRow_nil _ _ _ _, trivial⟩, bS⟩, bT⟩, hB0⟩
    (fun x => { tmps := #[.slice A n c, undef, .slice none 0 0, .bool false, .pointer (some ⟨w.heap.size, 0, none⟩), .slice (some ⟨b, off + x.1 * 13, none⟩) 13 13, .slice A n c, .int .i64 n, .int .i64 0, .bool false, .bool false, .slice A n c, .int .i64 n, .bool false, .bool false, .slice A n c, .func (.func 83) #[] #[.pointer (some ⟨w.heap.size + 1, 0, none⟩), .pointer (some ⟨w.heap.size + 1 + 1, 0, none⟩)], .slice (some ⟨b, off + x.1 * 13, none⟩) 13 13, undef, undef, undef, undef, undef, undef, undef, undef, undef, undef, undef, undef], defers := [] }) ?assign ?body ?done ?stop
  case assign =>
    intro lp x W K hK
    gi_wp2
    exact hK
  case body =>
    rintro lp pre x W ⟨⟨⟨⟨v, hv, hrow, _⟩, b1⟩, b2⟩, hB⟩ hlt
    have hm0 : 0 < m := by omega
    have hbw := (HA.out hm0).2
    have HIN := Lib.hid (pce_in (k := x.1) (HBY.out hm0))
    have HL13 := Lib.hid (pce_len (HN.out.trans HM.out) x.2)
    have HSN := Lib.hid (dF_snoc l pre x)
    have HDE := Lib.hid (fun W' (h : Below w.heap.size w W') => decentry_b b (off + x.1 * 13) (Pl.pce l x.1) HL13.out W' (Nat.lt_of_lt_of_le hbw h.size) (HIN.out.below hbw h))
    generalize Pl.de1 (Pl.pce l x.1) = e at *
    generalize off + x.1 * 13 = o at *
    have hf : W.drew.frozen? ⟨w.heap.size, 0, none⟩ = false := hv.frozen
    have hc : W.drew.cell? ⟨w.heap.size, 0, none⟩ = some v := hv.cell
    have hv0 : Boxed W.drew w.heap.size 70 v := hv
    have hrow0 : W.drew.ownsRow w.heap.size 72 4 v pre.length (flt enL (dF l pre)) := hrow
    have hB0' : Below w.heap.size w W.drew := hB.drew
    have c1 : Blk W.drew (w.heap.size + 1) 29 #[.slice A n c] := b1
    have c2 : Blk W.drew (w.heap.size + 1 + 1) 3 #[.int .i64 13] := b2
    have kd : KeepsFrom W0.heap.size W W.drew := (KeepsOthers.drew W).from _
    have kc : KeepsC w.heap.size (w.heap.size + 1) W W.drew := ⟨(Below.refl _ _).drew, rfl, rfl⟩
    clear hv hrow hB b1 b2
    gi_wp2
    refine wpIn_region_any (by kernel_rfl) ?_
    change wpAnyIn _ _ _ _ _ _ _ _ _ (World.drew _)
    generalize W.drew = V at *
    refine wpAnyIn_all (rs := [0, 1]) (by decide +kernel) (by simp) ?_
    intro i0 hi0
    obtain rfl | rfl : i0 = 0 ∨ i0 = 1 := by simpa using hi0
    · skip
      refine wpOpIn_goE rfl rfl (fun K hK => ?_)
      go_simp
      refine hK _ _ ?_
      clear hK K
      refine wpAnyIn_all (rs := [1]) (by decide +kernel) (by simp) ?_
      intro i0 hi0
      obtain rfl := List.mem_singleton.1 hi0
      refine wpOpIn_goE rfl rfl (fun K hK => ?_)
      go_simp
      refine hK _ _ ?_
      clear hK K
      refine wpAnyIn_all (rs := [2]) (by decide +kernel) (by simp) ?_
      intro i0 hi0
      obtain rfl := List.mem_singleton.1 hi0
      refine wpOpIn_goE rfl rfl (fun K hK => ?_)
      go_simp
      refine ⟨trivial, ?_⟩
      refine (CallsIn.inRound lp (callsIn_wide.2 (HDE.out V hB0'))).mono ?_
      rintro e' w1 ⟨rfl, hb1⟩
      have hc : w1.cell? ⟨w.heap.size, 0, none⟩ = some v := (hb1.cell (p := ⟨w.heap.size, 0, none⟩) hv0.lt).trans hc
      refine hK _ _ ?_
      clear hK K
      refine wpAnyIn_all (rs := [3]) (by decide +kernel) (by simp) ?_
      intro i0 hi0
      obtain rfl := List.mem_singleton.1 hi0
      refine wpOpIn_goE rfl rfl (fun K hK => ?_)
      go_simp
      have hc : (w1.alloc (.cells (enL e).toArray 72)).cell? ⟨w.heap.size, 0, none⟩ = some v := (Below.cell ((Below.refl w1.heap.size w1).alloc (Nat.le_refl _) (.cells (enL e).toArray 72)) (p := ⟨w.heap.size, 0, none⟩) (Nat.lt_of_lt_of_le hv0.lt hb1.size)).trans hc
      refine hK _ _ ?_
      clear hK K
      refine wpAnyIn_all (rs := [4]) (by decide +kernel) (by simp) ?_
      intro i0 hi0
      obtain rfl := List.mem_singleton.1 hi0
      refine wpOpIn_goE rfl rfl (fun K hK => ?_)
      have hrow1 := own_keep hrow0 hb1
      have hB1 := hB0'.trans (hb1.mono hB0'.size)
      have hv1 : Boxed w1 w.heap.size 70 v := (hb1.block _ hv0.lt).trans hv0
      refine wpIn_appendE _ _ _ 70 rfl w.heap.size 72 i0 _ 4 32 Try.underlying70 hi hz0 hz1 hz2 rfl (by decide) v pre.length _ rfl (hrow1.alloc (.cells (enL e).toArray 72)) ⟨w1.heap.size, 0, none⟩ 1 1 (enL e) rfl rfl (new_cells' _ _ _ rfl) (enL_one e) (by unfold maxLen; omega) (by omega) (by have := hB1.size; simp; omega) ?_
      intro v' w2 hown' hgrow
      obtain ⟨g', cap', rfl⟩ := ownsRow_succ hown'
      obtain ⟨hv2, hv3, hr3, hk3, hb3⟩ := hv1.appended (by decide) hrow1 hB1.size (Nat.le_refl _) hown' hgrow
      have hc2 := hv2.cell
      have hf2 := hv2.frozen
      refine hK _ _ ?_
      clear hK K
      refine wpAnyIn_all (rs := [5]) (by decide +kernel) (by simp) ?_
      intro i0 hi0
      obtain rfl := List.mem_singleton.1 hi0
      refine wpOpIn_goE rfl rfl (fun K hK => ?_)
      go_simp
      have e1 : Blk _ (w.heap.size + 1) _ _ := (Blk.grownBy ((c1.below hb1 c1.lt).alloc (.cells (enL e).toArray 72)) hgrow (own_ne_blk hrow1 (c1.below hb1 c1.lt) (by decide))).far (p := ⟨w.heap.size, 0, none⟩) (by show _ ≠ w.heap.size; omega) (.slice (some ⟨g', 0, none⟩) (pre.length + 1) cap')
      have e2 : Blk _ (w.heap.size + 1 + 1) _ _ := (Blk.grownBy ((c2.below hb1 c2.lt).alloc (.cells (enL e).toArray 72)) hgrow (own_ne_blk hrow1 (c2.below hb1 c2.lt) (by decide))).far (p := ⟨w.heap.size, 0, none⟩) (by show _ ≠ w.heap.size; omega) (.slice (some ⟨g', 0, none⟩) (pre.length + 1) cap')
      refine hK _ _ ?_
      clear hK K
      refine wpAnyIn_done (by decide +kernel) ?_ _
      gi_wp2
      exact ⟨kd.trans ((keepsFrom_below hb1).trans (hk3.from _)), kc.trans ⟨(hb1.mono hB0'.size).trans hb3, e1.trans c1.symm, e2.trans c2.symm⟩, ⟨⟨⟨_, hv3, by rw [HSN.out, flt_append, flt_one, List.length_append]; exact hr3, trivial⟩, e1⟩, e2⟩, hB1.trans hb3⟩
    · skip
      refine wpOpIn_goE rfl rfl (fun K hK => ?_)
      go_simp
      refine hK _ _ ?_
      clear hK K
      refine wpAnyIn_all (rs := [0, 2]) (by decide +kernel) (by simp) ?_
      intro i0 hi0
      obtain rfl | rfl : i0 = 0 ∨ i0 = 2 := by simpa using hi0
      · skip
        refine wpOpIn_goE rfl rfl (fun K hK => ?_)
        go_simp
        refine hK _ _ ?_
        clear hK K
        refine wpAnyIn_all (rs := [2]) (by decide +kernel) (by simp) ?_
        intro i0 hi0
        obtain rfl := List.mem_singleton.1 hi0
        refine wpOpIn_goE rfl rfl (fun K hK => ?_)
        go_simp
        refine ⟨trivial, ?_⟩
        refine (CallsIn.inRound lp (callsIn_wide.2 (HDE.out V hB0'))).mono ?_
        rintro e' w1 ⟨rfl, hb1⟩
        have hc : w1.cell? ⟨w.heap.size, 0, none⟩ = some v := (hb1.cell (p := ⟨w.heap.size, 0, none⟩) hv0.lt).trans hc
        refine hK _ _ ?_
        clear hK K
        refine wpAnyIn_all (rs := [3]) (by decide +kernel) (by simp) ?_
        intro i0 hi0
        obtain rfl := List.mem_singleton.1 hi0
        refine wpOpIn_goE rfl rfl (fun K hK => ?_)
        go_simp
        have hc : (w1.alloc (.cells (enL e).toArray 72)).cell? ⟨w.heap.size, 0, none⟩ = some v := (Below.cell ((Below.refl w1.heap.size w1).alloc (Nat.le_refl _) (.cells (enL e).toArray 72)) (p := ⟨w.heap.size, 0, none⟩) (Nat.lt_of_lt_of_le hv0.lt hb1.size)).trans hc
        refine hK _ _ ?_
        clear hK K
        refine wpAnyIn_all (rs := [4]) (by decide +kernel) (by simp) ?_
        intro i0 hi0
        obtain rfl := List.mem_singleton.1 hi0
        refine wpOpIn_goE rfl rfl (fun K hK => ?_)
        have hrow1 := own_keep hrow0 hb1
        have hB1 := hB0'.trans (hb1.mono hB0'.size)
        have hv1 : Boxed w1 w.heap.size 70 v := (hb1.block _ hv0.lt).trans hv0
        refine wpIn_appendE _ _ _ 70 rfl w.heap.size 72 i0 _ 4 32 Try.underlying70 hi hz0 hz1 hz2 rfl (by decide) v pre.length _ rfl (hrow1.alloc (.cells (enL e).toArray 72)) ⟨w1.heap.size, 0, none⟩ 1 1 (enL e) rfl rfl (new_cells' _ _ _ rfl) (enL_one e) (by unfold maxLen; omega) (by omega) (by have := hB1.size; simp; omega) ?_
        intro v' w2 hown' hgrow
        obtain ⟨g', cap', rfl⟩ := ownsRow_succ hown'
        obtain ⟨hv2, hv3, hr3, hk3, hb3⟩ := hv1.appended (by decide) hrow1 hB1.size (Nat.le_refl _) hown' hgrow
        have hc2 := hv2.cell
        have hf2 := hv2.frozen
        refine hK _ _ ?_
        clear hK K
        refine wpAnyIn_all (rs := [5]) (by decide +kernel) (by simp) ?_
        intro i0 hi0
        obtain rfl := List.mem_singleton.1 hi0
        refine wpOpIn_goE rfl rfl (fun K hK => ?_)
        go_simp
        have e1 : Blk _ (w.heap.size + 1) _ _ := (Blk.grownBy ((c1.below hb1 c1.lt).alloc (.cells (enL e).toArray 72)) hgrow (own_ne_blk hrow1 (c1.below hb1 c1.lt) (by decide))).far (p := ⟨w.heap.size, 0, none⟩) (by show _ ≠ w.heap.size; omega) (.slice (some ⟨g', 0, none⟩) (pre.length + 1) cap')
        have e2 : Blk _ (w.heap.size + 1 + 1) _ _ := (Blk.grownBy ((c2.below hb1 c2.lt).alloc (.cells (enL e).toArray 72)) hgrow (own_ne_blk hrow1 (c2.below hb1 c2.lt) (by decide))).far (p := ⟨w.heap.size, 0, none⟩) (by show _ ≠ w.heap.size; omega) (.slice (some ⟨g', 0, none⟩) (pre.length + 1) cap')
        refine hK _ _ ?_
        clear hK K
        refine wpAnyIn_done (by decide +kernel) ?_ _
        gi_wp2
        exact ⟨kd.trans ((keepsFrom_below hb1).trans (hk3.from _)), kc.trans ⟨(hb1.mono hB0'.size).trans hb3, e1.trans c1.symm, e2.trans c2.symm⟩, ⟨⟨⟨_, hv3, by rw [HSN.out, flt_append, flt_one, List.length_append]; exact hr3, trivial⟩, e1⟩, e2⟩, hB1.trans hb3⟩
      · skip
        refine wpOpIn_goE rfl rfl (fun K hK => ?_)
        go_simp
        refine ⟨trivial, ?_⟩
        refine (CallsIn.inRound lp (callsIn_wide.2 (HDE.out V hB0'))).mono ?_
        rintro e' w1 ⟨rfl, hb1⟩
        have hc : w1.cell? ⟨w.heap.size, 0, none⟩ = some v := (hb1.cell (p := ⟨w.heap.size, 0, none⟩) hv0.lt).trans hc
        refine hK _ _ ?_
        clear hK K
        refine wpAnyIn_all (rs := [0, 3]) (by decide +kernel) (by simp) ?_
        intro i0 hi0
        obtain rfl | rfl : i0 = 0 ∨ i0 = 3 := by simpa using hi0
        · skip
          refine wpOpIn_goE rfl rfl (fun K hK => ?_)
          go_simp
          refine hK _ _ ?_
          clear hK K
          refine wpAnyIn_all (rs := [3]) (by decide +kernel) (by simp) ?_
          intro i0 hi0
          obtain rfl := List.mem_singleton.1 hi0
          refine wpOpIn_goE rfl rfl (fun K hK => ?_)
          go_simp
          have hc : (w1.alloc (.cells (enL e).toArray 72)).cell? ⟨w.heap.size, 0, none⟩ = some v := (Below.cell ((Below.refl w1.heap.size w1).alloc (Nat.le_refl _) (.cells (enL e).toArray 72)) (p := ⟨w.heap.size, 0, none⟩) (Nat.lt_of_lt_of_le hv0.lt hb1.size)).trans hc
          refine hK _ _ ?_
          clear hK K
          refine wpAnyIn_all (rs := [4]) (by decide +kernel) (by simp) ?_
          intro i0 hi0
          obtain rfl := List.mem_singleton.1 hi0
          refine wpOpIn_goE rfl rfl (fun K hK => ?_)
          have hrow1 := own_keep hrow0 hb1
          have hB1 := hB0'.trans (hb1.mono hB0'.size)
          have hv1 : Boxed w1 w.heap.size 70 v := (hb1.block _ hv0.lt).trans hv0
          refine wpIn_appendE _ _ _ 70 rfl w.heap.size 72 i0 _ 4 32 Try.underlying70 hi hz0 hz1 hz2 rfl (by decide) v pre.length _ rfl (hrow1.alloc (.cells (enL e).toArray 72)) ⟨w1.heap.size, 0, none⟩ 1 1 (enL e) rfl rfl (new_cells' _ _ _ rfl) (enL_one e) (by unfold maxLen; omega) (by omega) (by have := hB1.size; simp; omega) ?_
          intro v' w2 hown' hgrow
          obtain ⟨g', cap', rfl⟩ := ownsRow_succ hown'
          obtain ⟨hv2, hv3, hr3, hk3, hb3⟩ := hv1.appended (by decide) hrow1 hB1.size (Nat.le_refl _) hown' hgrow
          have hc2 := hv2.cell
          have hf2 := hv2.frozen
          refine hK _ _ ?_
          clear hK K
          refine wpAnyIn_all (rs := [5]) (by decide +kernel) (by simp) ?_
          intro i0 hi0
          obtain rfl := List.mem_singleton.1 hi0
          refine wpOpIn_goE rfl rfl (fun K hK => ?_)
          go_simp
          have e1 : Blk _ (w.heap.size + 1) _ _ := (Blk.grownBy ((c1.below hb1 c1.lt).alloc (.cells (enL e).toArray 72)) hgrow (own_ne_blk hrow1 (c1.below hb1 c1.lt) (by decide))).far (p := ⟨w.heap.size, 0, none⟩) (by show _ ≠ w.heap.size; omega) (.slice (some ⟨g', 0, none⟩) (pre.length + 1) cap')
          have e2 : Blk _ (w.heap.size + 1 + 1) _ _ := (Blk.grownBy ((c2.below hb1 c2.lt).alloc (.cells (enL e).toArray 72)) hgrow (own_ne_blk hrow1 (c2.below hb1 c2.lt) (by decide))).far (p := ⟨w.heap.size, 0, none⟩) (by show _ ≠ w.heap.size; omega) (.slice (some ⟨g', 0, none⟩) (pre.length + 1) cap')
          refine hK _ _ ?_
          clear hK K
          refine wpAnyIn_done (by decide +kernel) ?_ _
          gi_wp2
          exact ⟨kd.trans ((keepsFrom_below hb1).trans (hk3.from _)), kc.trans ⟨(hb1.mono hB0'.size).trans hb3, e1.trans c1.symm, e2.trans c2.symm⟩, ⟨⟨⟨_, hv3, by rw [HSN.out, flt_append, flt_one, List.length_append]; exact hr3, trivial⟩, e1⟩, e2⟩, hB1.trans hb3⟩
        · skip
          refine wpOpIn_goE rfl rfl (fun K hK => ?_)
          go_simp
          have hc : (w1.alloc (.cells (enL e).toArray 72)).cell? ⟨w.heap.size, 0, none⟩ = some v := (Below.cell ((Below.refl w1.heap.size w1).alloc (Nat.le_refl _) (.cells (enL e).toArray 72)) (p := ⟨w.heap.size, 0, none⟩) (Nat.lt_of_lt_of_le hv0.lt hb1.size)).trans hc
          refine hK _ _ ?_
          clear hK K
          refine wpAnyIn_all (rs := [0]) (by decide +kernel) (by simp) ?_
          intro i0 hi0
          obtain rfl := List.mem_singleton.1 hi0
          refine wpOpIn_goE rfl rfl (fun K hK => ?_)
          go_simp
          refine hK _ _ ?_
          clear hK K
          refine wpAnyIn_all (rs := [4]) (by decide +kernel) (by simp) ?_
          intro i0 hi0
          obtain rfl := List.mem_singleton.1 hi0
          refine wpOpIn_goE rfl rfl (fun K hK => ?_)
          have hrow1 := own_keep hrow0 hb1
          have hB1 := hB0'.trans (hb1.mono hB0'.size)
          have hv1 : Boxed w1 w.heap.size 70 v := (hb1.block _ hv0.lt).trans hv0
          refine wpIn_appendE _ _ _ 70 rfl w.heap.size 72 i0 _ 4 32 Try.underlying70 hi hz0 hz1 hz2 rfl (by decide) v pre.length _ rfl (hrow1.alloc (.cells (enL e).toArray 72)) ⟨w1.heap.size, 0, none⟩ 1 1 (enL e) rfl rfl (new_cells' _ _ _ rfl) (enL_one e) (by unfold maxLen; omega) (by omega) (by have := hB1.size; simp; omega) ?_
          intro v' w2 hown' hgrow
          obtain ⟨g', cap', rfl⟩ := ownsRow_succ hown'
          obtain ⟨hv2, hv3, hr3, hk3, hb3⟩ := hv1.appended (by decide) hrow1 hB1.size (Nat.le_refl _) hown' hgrow
          have hc2 := hv2.cell
          have hf2 := hv2.frozen
          refine hK _ _ ?_
          clear hK K
          refine wpAnyIn_all (rs := [5]) (by decide +kernel) (by simp) ?_
          intro i0 hi0
          obtain rfl := List.mem_singleton.1 hi0
          refine wpOpIn_goE rfl rfl (fun K hK => ?_)
          go_simp
          have e1 : Blk _ (w.heap.size + 1) _ _ := (Blk.grownBy ((c1.below hb1 c1.lt).alloc (.cells (enL e).toArray 72)) hgrow (own_ne_blk hrow1 (c1.below hb1 c1.lt) (by decide))).far (p := ⟨w.heap.size, 0, none⟩) (by show _ ≠ w.heap.size; omega) (.slice (some ⟨g', 0, none⟩) (pre.length + 1) cap')
          have e2 : Blk _ (w.heap.size + 1 + 1) _ _ := (Blk.grownBy ((c2.below hb1 c2.lt).alloc (.cells (enL e).toArray 72)) hgrow (own_ne_blk hrow1 (c2.below hb1 c2.lt) (by decide))).far (p := ⟨w.heap.size, 0, none⟩) (by show _ ≠ w.heap.size; omega) (.slice (some ⟨g', 0, none⟩) (pre.length + 1) cap')
          refine hK _ _ ?_
          clear hK K
          refine wpAnyIn_done (by decide +kernel) ?_ _
          gi_wp2
          exact ⟨kd.trans ((keepsFrom_below hb1).trans (hk3.from _)), kc.trans ⟨(hb1.mono hB0'.size).trans hb3, e1.trans c1.symm, e2.trans c2.symm⟩, ⟨⟨⟨_, hv3, by rw [HSN.out, flt_append, flt_one, List.length_append]; exact hr3, trivial⟩, e1⟩, e2⟩, hB1.trans hb3⟩
  case done =>
    rintro D ys W hD rfl ⟨⟨⟨⟨v, hv, hrow, _⟩, _⟩, _⟩, hB⟩ hK
    rw [dF_all, List.length_finRange] at hrow
    obtain ⟨Av, cv, rfl, hRv, _, hcv, _⟩ := rows_own2 (xs := Pl.decN l m) (Pl.decN_len l m) hrow
    have hDlt := (Array.getElem?_eq_some_iff.1 hK).1
    have hS : W.drew.cell? ⟨w.heap.size, 0, none⟩ = some (.slice Av m cv) := hv.cell
    have hlt0 := hv.lt
    obtain ⟨y, hy⟩ : ∃ y, Pl.vB (Pl.decN l m) = y := ⟨_, rfl⟩
    have hmx : m ≤ maxLen := by unfold maxLen; omega
    have HVA := Lib.hid (fun W' (h : Below W.heap.size W W') => valid_any Av (Pl.decN l m) cv m (Pl.decN_len l m) hmx y hy W' (hRv.below h))
    have hbd : Below W.heap.size W W.drew := (Below.refl _ _).drew
    gi_wp2
    refine wpIn_wide.2 ?_
    refine wp_region_noPanic ?_
    refine wp_region_held (S := fun V => V.cell? ⟨w.heap.size, 0, none⟩ = some (.slice Av m cv)) (by kernel_rfl) ?_
    change wpAnyH _ _ _ _ _ _ _ _ (World.drew _)
    have HOKK := HOK.out
    rw [hy] at HOKK
    generalize W.drew = V at *
    refine wpAnyH_take (i := 0) (v := ?_) rfl (by kernel_rfl) (by decide +kernel) (by decide +kernel) (fun _ _ _ h => h) (Or.inl ⟨by rfl, ?_⟩) hS ?_
    rotate_left
    · intro w' hS; first | (go_simp; done) | (go_simp; with_reducible rfl)
    refine wpAnyH_take (i := 1) (v := ?_) rfl (by kernel_rfl) (by decide +kernel) (by decide +kernel) (fun _ _ _ h => h) (Or.inl ⟨by rfl, ?_⟩) hS ?_
    rotate_left
    · intro w' hS; first | (go_simp; done) | (go_simp; with_reducible rfl)
    refine wpAnyH_all (rs := [2]) (by decide +kernel) (by simp) ?_
    intro i0 hi0
    obtain rfl := List.mem_singleton.1 hi0
    refine wpOp_goE rfl rfl (fun K hK' => ?_)
    go_simp
    refine (HVA.out V hbd).mono ?_
    rintro e V1 ⟨rfl, hb1⟩
    have hS : V1.cell? ⟨w.heap.size, 0, none⟩ = some (.slice Av m cv) := (hb1.cell (p := ⟨w.heap.size, 0, none⟩) (Nat.lt_of_lt_of_le hlt0 hbd.size)).trans hS
    refine hK' _ _ ⟨hS, ?_⟩
    clear hK' K
    have hb1' := hbd.trans (hb1.mono hbd.size)
    cases y
    case false =>
      obtain rfl : ok = false := by rw [← HOKK]; rfl
      have hK1 := (hb1'.block D hDlt).trans hK
      refine wpAnyH_take (i := 3) (v := ?_) rfl (by kernel_rfl) (by decide +kernel) (by decide +kernel) (fun _ _ _ h => h) (Or.inl ⟨by rfl, ?_⟩) hS ?_
      rotate_left
      · intro w' hS; first | (go_simp; done) | (go_simp; with_reducible rfl)
      refine wpAnyH_take (i := 4) (v := undef) rfl (by kernel_rfl) (by decide +kernel) (by decide +kernel) (fun _ _ _ h => h) (Or.inr ⟨by rfl, rfl⟩) hS ?_
      refine wpAnyH_take (i := 5) (v := undef) rfl (by kernel_rfl) (by decide +kernel) (by decide +kernel) (fun _ _ _ h => h) (Or.inr ⟨by rfl, rfl⟩) hS ?_
      refine wpAnyH_take (i := 6) (v := ?_) rfl (by kernel_rfl) (by decide +kernel) (by decide +kernel) (fun _ _ _ h => h) (Or.inl ⟨by rfl, ?_⟩) hS ?_
      rotate_left
      · intro w' hS; first | (go_simp; done) | (go_simp; with_reducible rfl)
      refine wpAnyH_take (i := 7) (v := ?_) rfl (by kernel_rfl) (by decide +kernel) (by decide +kernel) (fun _ _ _ h => h) (Or.inl ⟨by rfl, ?_⟩) hS ?_
      rotate_left
      · intro w' hS; first | (go_simp; done) | (go_simp; with_reducible rfl)
      refine wpAnyH_take (i := 8) (v := ?_) rfl (by kernel_rfl) (by decide +kernel) (by decide +kernel) (fun _ _ _ h => h) (Or.inl ⟨by rfl, ?_⟩) hS ?_
      rotate_left
      · intro w' hS; first | (go_simp; done) | (go_simp; with_reducible rfl)
      refine wpAnyH_done (by decide +kernel) ?_ _
      refine NoPanic.normal ?_
      gi_wp2
      refine ⟨by simp, .inl ⟨_, _, rfl, run_takeDeferred hK1, ?_⟩⟩
      exact ⟨.tuple #[.slice Av m cv, .bool false], by simp [results, Try.results59, go_sem], _, rfl, ownsRow_putObj (own_keep hrow hb1') _ hK1 rfl, (hB.trans (hb1'.mono hB.size)).trans (belowK_b (w := w) (Nat.le_refl _) _ D _ _ (by omega) hK1 rfl rfl)⟩
    case true =>
      have hvb := Pl.vb_iff.1 hy
      have hu : decide (Pl.srt (Pl.decN l m) = Pl.decN l m) = ok := HOKK
      have HIS := Lib.hid (fun W' (h : Below W.heap.size W W') => issorted_b Av (Pl.decN l m) cv m (Pl.decN_len l m) hvb ok hu W' (hRv.below h))
      refine wpAnyH_take (i := 3) (v := ?_) rfl (by kernel_rfl) (by decide +kernel) (by decide +kernel) (fun _ _ _ h => h) (Or.inl ⟨by rfl, ?_⟩) hS ?_
      rotate_left
      · intro w' hS; first | (go_simp; done) | (go_simp; with_reducible rfl)
      refine wpAnyH_take (i := 4) (v := ?_) rfl (by kernel_rfl) (by decide +kernel) (by decide +kernel) (fun _ _ _ h => h) (Or.inl ⟨by rfl, ?_⟩) hS ?_
      rotate_left
      · intro w' hS; first | (go_simp; done) | (go_simp; with_reducible rfl)
      refine wpAnyH_all (rs := [5]) (by decide +kernel) (by simp) ?_
      intro i0 hi0
      obtain rfl := List.mem_singleton.1 hi0
      refine wpOp_goE rfl rfl (fun K hK' => ?_)
      go_simp
      refine (HIS.out V1 hb1').mono ?_
      rintro e V2 ⟨rfl, hb2⟩
      have hS : V2.cell? ⟨w.heap.size, 0, none⟩ = some (.slice Av m cv) := (hb2.cell (p := ⟨w.heap.size, 0, none⟩) (Nat.lt_of_lt_of_le hlt0 hb1'.size)).trans hS
      refine hK' _ _ ⟨hS, ?_⟩
      clear hK' K
      have hb2' := hb1'.trans (hb2.mono hb1'.size)
      have hK1 := (hb2'.block D hDlt).trans hK
      refine wpAnyH_take (i := 6) (v := ?_) rfl (by kernel_rfl) (by decide +kernel) (by decide +kernel) (fun _ _ _ h => h) (Or.inl ⟨by rfl, ?_⟩) hS ?_
      rotate_left
      · intro w' hS; first | (go_simp; done) | (go_simp; with_reducible rfl)
      refine wpAnyH_take (i := 7) (v := ?_) rfl (by kernel_rfl) (by decide +kernel) (by decide +kernel) (fun _ _ _ h => h) (Or.inl ⟨by rfl, ?_⟩) hS ?_
      rotate_left
      · intro w' hS; first | (go_simp; done) | (go_simp; with_reducible rfl)
      refine wpAnyH_take (i := 8) (v := ?_) rfl (by kernel_rfl) (by decide +kernel) (by decide +kernel) (fun _ _ _ h => h) (Or.inl ⟨by rfl, ?_⟩) hS ?_
      rotate_left
      · intro w' hS; first | (go_simp; done) | (go_simp; with_reducible rfl)
      refine wpAnyH_done (by decide +kernel) ?_ _
      refine NoPanic.normal ?_
      gi_wp2
      refine ⟨by simp, .inl ⟨_, _, rfl, run_takeDeferred hK1, ?_⟩⟩
      exact ⟨.tuple #[.slice Av m cv, .bool ok], by simp [results, Try.results59, go_sem], _, rfl, ownsRow_putObj (own_keep hrow hb2') _ hK1 rfl, (hB.trans (hb2'.mono hB.size)).trans (belowK_b (w := w) (Nat.le_refl _) _ D _ _ (by omega) hK1 rfl rfl)⟩
  case stop =>
    rintro D c pre W _ _ h _
    exact h.elim
theorem Pl.dc_no {l : Pl.Bs} (h : Pl.okD l = false) : Pl.dcE l = 90 ∧ Pl.dcV l = [] := by unfold Pl.dcE Pl.dcV; rw [h]; exact ⟨rfl, rfl⟩
theorem Pl.dc_yes {l : Pl.Bs} {m : Nat} (h : Pl.okD l = true) (hm : l.length = m * 13) : Pl.dcE l = 0 ∧ Pl.dcV l = Pl.decN l m := by
  unfold Pl.dcE Pl.dcV
  rw [h, show l.length / 13 = m by omega]
  exact ⟨rfl, rfl⟩
theorem Pl.okd_at {l : Pl.Bs} {m : Nat} (hm : l.length = m * 13) (h2 : m ≤ 200) : Pl.okD l = (Pl.vB (Pl.decN l m) && decide (Pl.srt (Pl.decN l m) = Pl.decN l m)) := by
  unfold Pl.okD
  rw [show l.length / 13 = m by omega, decide_eq_true (show l.length % 13 = 0 by omega), decide_eq_true (show l.length ≤ 2600 by omega)]
  rfl
theorem Pl.okd_no {l : Pl.Bs} (h : l.length % 13 ≠ 0 ∨ 2600 < l.length) : Pl.okD l = false := by
  unfold Pl.okD
  rcases h with h | h
  · rw [decide_eq_false h]; rfl
  · rw [decide_eq_false (show ¬ l.length ≤ 2600 by omega)]; simp
set_option maxRecDepth 100000 in
set_option maxHeartbeats 2000000 in
theorem decoded_no (A : Option Addr) (n c : Nat) (h : n % 13 ≠ 0 ∨ 2600 < n) (w : World) :
    Calls Try.prog 59 #[.slice A n c] w fun e w' => e = .returned (.tuple #[.slice none 0 0, .bool false]) ∧ w' = w := by
  by_cases h13 : n % 13 = 0
  · have t1 : Int.tmod (n : Int) 13 = 0 := by rw [Int.tmod_eq_emod_of_nonneg (by omega)]; omega
    have t2 : (2600 : Int) < (n : Int) := by omega
    have d2 : decide ((2600 : Int) < (n : Int)) = true := by simp; omega
    clear h h13
    go_enter Try.func59, Try.ntmps59
    go_wp2
    go_ret2
    exact ⟨rfl, rfl⟩
  · have t1 : ¬ Int.tmod (n : Int) 13 = 0 := by rw [Int.tmod_eq_emod_of_nonneg (by omega)]; omega
    have t2 : (Int.tmod (n : Int) 13 != 0) = true := by simp [t1]
    have t3 : (Int.tmod (n : Int) 13 == 0) = false := by simp [t1]
    clear h h13
    go_enter Try.func59, Try.ntmps59
    go_wp2
    go_ret2
    exact ⟨rfl, rfl⟩
set_option maxRecDepth 100000 in
set_option maxHeartbeats 2000000 in
theorem decode2_b (A : Option Addr) (l : Pl.Bs) (c n : Nat) (hn : l.length = n) (hnc : n ≤ c) (w : World) (hI : Rows u8L 1 w A l) :
    Calls Try.prog 35 #[.slice A n c] w fun e w' => ∃ v, e = .returned (.tuple #[v, .int .i64 (Pl.dcE l)]) ∧ w'.ownsRow w.heap.size 72 4 v (Pl.dcV l).length (flt enL (Pl.dcV l)) ∧ Below w.heap.size w w' := by
  by_cases hno : n % 13 ≠ 0 ∨ 2600 < n
  · have h1 := Pl.dc_no (Pl.okd_no (l := l) (by rw [hn]; exact hno))
    rw [h1.1, h1.2]
    have H := Lib.hid (decoded_no A n c hno w)
    clear h1 hno hI hn hnc
    go_enter Try.func35, Try.ntmps35
    go_wp2_with fail
    refine H.out.mono ?_
    rintro e w1 ⟨rfl, rfl⟩
    go_wp2
    go_ret2
    exact ⟨_, rfl, World.ownsRow_nil _ _ _ _, Below.refl _ _⟩
  · obtain ⟨m, hM⟩ : ∃ m, n = m * 13 := ⟨n / 13, by omega⟩
    have hm : m ≤ 200 := by omega
    obtain ⟨ok, hok⟩ : ∃ ok, (Pl.vB (Pl.decN l m) && decide (Pl.srt (Pl.decN l m) = Pl.decN l m)) = ok := ⟨_, rfl⟩
    have H := Lib.hid (callsIn_wide.1 (decoded_in A l c n m hn hM hm hnc ok hok w hI))
    have hkd := (Pl.okd_at (hn.trans hM) hm).trans hok
    cases ok
    case false =>
      have h1 := Pl.dc_no hkd
      rw [h1.1, h1.2]
      clear h1 hno hI hn hnc hkd hok hM
      go_enter Try.func35, Try.ntmps35
      go_wp2_with fail
      refine H.out.mono ?_
      rintro e w1 ⟨v, rfl, hO, hb⟩
      go_wp2
      go_ret2
      exact ⟨_, rfl, World.ownsRow_nil _ _ _ _, hb⟩
    case true =>
      have h1 := Pl.dc_yes hkd (hn.trans hM)
      have HDL := Lib.hid (Pl.decN_len l m)
      rw [h1.1, h1.2, HDL.out]
      clear h1 hno hI hn hnc hkd hok hM
      go_enter Try.func35, Try.ntmps35
      go_wp2_with fail
      refine H.out.mono ?_
      rintro e w1 ⟨v, rfl, hO, hb⟩
      have HO := Lib.hid hO
      clear hO
      go_wp2
      go_ret2
      exact ⟨_, rfl, HO.out, hb⟩
end Go.Proofs.Ytalfffkcmddakab
