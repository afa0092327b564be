/- Merged: K1 K2 K3. -/
import Derived.Test.YtlikmlhlfbdchaaJX
import Derived.RangeFuncNested
import Derived.RangeFuncBox
import Derived.RangeFuncCalls
import Derived.LoopIn
import Derived.Deep.RegionHeld3
import Derived.Test.YtlikmlhlfbdchaaBX
import Derived.RangeFuncLeaves
import Derived.OwnWalkIn
/- A search by a range over a function whose iterator writes memory of its own between two rounds. -/
namespace Go.Proofs.Ytlikmlhlfbdchaa
open Go.RowKit Go.Shelf

/-- what holds of a world goes on to hold when something at or behind block B is turned or laid -/
def Far (B : Nat) (J : Nat → World → Prop) : Prop := ∀ k W W' row, J k W → W.grownBy W' row → (∀ r, row = some r → B ≤ r) → J k W'
theorem Far.alloc {B : Nat} {J : Nat → World → Prop} (h : Far B J) {k : Nat} {W : World} (o : Obj) (hj : J k W) : J k (W.alloc o) := h k W _ none hj (World.grownBy_alloc W o none) (fun _ e => by cases e)
theorem Far.put {B : Nat} {J : Nat → World → Prop} (h : Far B J) {k l : Nat} {W : World} (o : Obj) (hj : J k W) (hl : B ≤ l) : J k (W.putObj l o) := h k W _ (some l) hj (grownBy_putObj' W l o) (fun _ e => by cases e; exact hl)
theorem far_below {B n : Nat} {w : World} (h : n ≤ B) (hn : n ≤ w.heap.size) : Far B (fun _ W => Below n w W) := fun k W W' row hb hg hr =>
  hb.trans ⟨hg.os, hg.tape, hg.output, hg.size, fun i hi => hg.block i (Nat.lt_of_lt_of_le (Nat.lt_of_lt_of_le hi hn) hb.size) (fun e => by have := hr i e.symm; omega)⟩
theorem Far.and {B : Nat} {I J : Nat → World → Prop} (h : Far B I) (k : Far B J) : Far B (fun i W => I i W ∧ J i W) := fun i W W' row hs hg hr => ⟨h i W W' row hs.1 hg hr, k i W W' row hs.2 hg hr⟩
theorem far_const {B : Nat} (p : Nat → Prop) : Far B (fun k _ => p k) := fun _ _ _ _ h _ _ => h
/-- an object ahead of B lies on -/
theorem far_obj {B b : Nat} (o : Obj) (h : b < B) : Far B (fun _ W => W.heap[b]? = some o) := fun _ W W' row hs hg hr =>
  (hg.block b (Array.getElem?_eq_some_iff.1 hs).1 (fun e => by have := hr b e.symm; omega)).trans hs

/-- cells lie as they lay -/
structure KeepC (W W' : World) : Prop where
  size : W.heap.size ≤ W'.heap.size
  same : ∀ (k : Nat) (o : Obj), W.heap[k]? = some o → o.isCells = true → W'.heap[k]? = some o
theorem KeepC.trans {A B C : World} (h : KeepC A B) (k : KeepC B C) : KeepC A C := ⟨Nat.le_trans h.size k.size, fun i o hi ho => k.same i o (h.same i o hi ho) ho⟩
theorem KeepC.put {W : World} {l : Nat} {o : Obj} (o' : Obj) (h : W.heap[l]? = some o) (hc : o.isCells = false) : KeepC W (W.putObj l o') :=
  ⟨by simp, fun k q hk hq => by
    by_cases e : k = l
    · subst e; rw [h] at hk; cases hk; rw [hc] at hq; cases hq
    · exact (World.putObj_heap_other e).trans hk⟩
theorem KeepC.of_below {W W' : World} (h : Below W.heap.size W W') : KeepC W W' := ⟨h.size, fun k _ hk _ => (h.block k (Array.getElem?_eq_some_iff.1 hk).1).trans hk⟩

/-- what an iterator over the values enc 0, .., enc (N - 1) is asked for -/
def Hands (n : Nat) (P : Program) (g : Nat) (lb : Array Value) (enc : Nat → Array Value) (N : Nat) (w : World) : Prop :=
  ∀ (l : Nat) (J X : Nat → World → Prop) (W : World), Below w.heap.size w W → Far W.heap.size J → Far W.heap.size X →
    (∀ k W1, k < N → J k W1 → YieldAt Fence.wide (n - 1) P l (enc k) W1 fun e W' => (e = .returned (.bool true) ∧ J (k + 1) W' ∧ KeepC W1 W') ∨ (e = .returned (.bool false) ∧ X k W')) →
    J 0 W → CallsIn Fence.wide n P g (#[.func (.yield l) #[] #[]] ++ lb) W fun e W' => (∃ v, e = .returned v) ∧ (J N W' ∨ ∃ k, k < N ∧ X k W')

/-- how a round ends: on, or out of the function -/
def roundEnd (B : Nat) (I X : Nat → World → Prop) (k : Nat) (W : World) : Exit → Act → World → Prop
  | .normal, _, W' => KeepC W W' ∧ (∀ (i : Nat) (o : Obj), B ≤ i → W.heap[i]? = some o → o.isCells = false → W'.heap[i]? = some o) ∧ I (k + 1) W'
  | .ret, _, W' => (∀ (i : Nat) (o : Obj), B ≤ i → W.heap[i]? = some o → o.isCells = false → W'.heap[i]? = some o) ∧ X k W'
  | _, _, _ => False

theorem range_search {n : Nat} {P : Program} {g : Operand} {ps : Array Tmp} {assign body : Code} {Q : Exit → Act → World → Prop} {a : Act} {w : World}
    (h1 : 1 ≤ n) {gf : Nat} {lb : Array Value} (hg : a.eval g = .func (.func gf) #[] lb) (eg : ∀ args w, (callFunc gf args).run P w = .ok (.enter gf args) w)
    {enc : Nat → Array Value} {N : Nat} (hseq : Hands (n - 1) P gf lb enc N w) (hps : ∀ k, (enc k).size = ps.size)
    (I X : Nat → World → Prop) (hI : Far w.heap.size I) (hX : Far w.heap.size X) (h0 : I 0 w) (b : Nat → Nat → Act) (t : TypeId) (vs : Nat → Array Value)
    (hassign : ∀ (l k : Nat) (W : World) (K : Act → World → Prop), K (b k W.heap.size) (W.alloc (.cells (vs k) t)) →
      assign.wpIn (Fence.wide.inRound l) (n - 1 - 1) P (Exit.then K (fun _ _ _ => False)) { tmps := (ps.zip (enc k)).foldl (fun t (p, v) => t.setIfInBounds p v) a.tmps, defers := [] } W)
    (hbody : ∀ (l k g : Nat) (W : World), k < N → I k W → w.heap.size ≤ g → Blk W g t (vs k) → body.wpIn (Fence.wide.inRound l) (n - 1 - 1) P (roundEnd w.heap.size I X k W) (b k g) W)
    (hdone : ∀ (D : Nat) (W : World), w.heap.size ≤ D → I N W → W.heap[D]? = some (.deferred (some [])) → Q .normal { a with defers := { target := .collected D, args := #[] } :: a.defers } W)
    (hstop : ∀ (D k : Nat) (W : World), w.heap.size ≤ D → k < N → X k W → W.heap[D]? = some (.deferred (some [])) → Code.ret.wpIn Fence.wide n P Q { a with defers := { target := .collected D, args := #[] } :: a.defers } W) :
    (Code.rangeFunc g ps assign body).wpIn Fence.wide n P Q a w := by
  refine wpIn_rangeFunc (fun fn hfn => ?_)
  obtain ⟨s, hs⟩ : ∃ s, s = w.heap.size := ⟨_, rfl⟩
  obtain ⟨R, hR⟩ : ∃ R : LoopState → Option Code → Loop, ∀ x y, R x y = { state := x, pending := y, fn, tmps := a.tmps, params := ps, assign, body, defers := s } := ⟨fun x y => { state := x, pending := y, fn, tmps := a.tmps, params := ps, assign, body, defers := s }, fun _ _ => rfl⟩
  obtain ⟨V, hV⟩ : ∃ V, V = (w.alloc (.deferred (some []))).alloc (.loop (R .ready none)) := ⟨_, rfl⟩
  have vsz : V.heap.size = s + 2 := by rw [hV, World.size_alloc, World.size_alloc, hs]
  have v0 : V.heap[s]? = some (.deferred (some [])) := by rw [hV, hs]; exact (Below.heap_alloc _ _ _ (by simp)).trans (World.alloc_heap_new w _)
  have v1 : V.heap[s + 1]? = some (.loop (R .ready none)) := by
    have := World.alloc_heap_new (w.alloc (.deferred (some []))) (.loop (R .ready none))
    rw [World.size_alloc] at this
    rw [hV, hs]; exact this
  have vb : Below w.heap.size w V := by rw [hV]; exact ((Below.refl _ w).alloc (Nat.le_refl _) _).alloc (by simp) _
  have vI : I 0 V := by rw [hV]; exact hI.alloc _ (hI.alloc _ h0)
  rw [← hs] at hI hX
  refine ⟨s + 1, [{ target := .collected s, args := #[] }], V, { target := .fn (.func gf) lb, args := #[.func (.yield (s + 1)) #[] #[]] }, V, gf, #[.func (.yield (s + 1)) #[] #[]] ++ lb, V, ?_, ?_, fun _ _ => trivial, ?_, fun _ => h1, ?_⟩
  · rw [hV, hs, hR, hs]; exact run_enterLoop_outer _ _ _ _ _
  · simp only [resolve, hg]; simp [go_sem]
  · simp [invoke, go_sem, eg]
  have up : ∀ {Y : Nat → World → Prop}, Far s Y → Far V.heap.size Y := fun h k W W' row hj hgr hr => h k W W' row hj hgr (fun r e => by have := hr r e; omega)
  refine (hseq (s + 1)
    (fun k W => I k W ∧ (W.heap[s + 1]? = some (.loop (R .ready none)) ∧ W.heap[s]? = some (.deferred (some []))))
    (fun k W => X k W ∧ (W.heap[s + 1]? = some (.loop (R .done (some .ret))) ∧ W.heap[s]? = some (.deferred (some []))))
    V vb ((up hI).and ((far_obj _ (by omega)).and (far_obj _ (by omega)))) ((up hX).and ((far_obj _ (by omega)).and (far_obj _ (by omega)))) ?_ ⟨vI, v1, v0⟩).mono ?_
  · rintro k W hk ⟨hi, hl, hd⟩
    have hlt : s + 1 < W.heap.size := (Array.getElem?_eq_some_iff.1 hl).1
    have hy := run_yield (P := P) (args := enc k) hl (by rw [hR]; exact hps k)
    simp only [hR] at hy
    obtain ⟨W0, hW0⟩ : ∃ W0, W0 = W.alloc (.cells (vs k) t) := ⟨_, rfl⟩
    have l0 : W0.heap[s + 1]? = some (.loop (R .ready none)) := by rw [hW0]; exact (Below.heap_alloc _ _ _ hlt).trans hl
    have d0 : W0.heap[s]? = some (.deferred (some [])) := by rw [hW0]; exact (Below.heap_alloc _ _ _ (by omega)).trans hd
    have c0 : KeepC W W0 := by rw [hW0]; exact KeepC.of_below ((Below.refl _ _).alloc (Nat.le_refl _) _)
    have b0 : Blk W0 W.heap.size t (vs k) := by rw [hW0]; exact Blk.new _ _ _
    have i0 : I k W0 := by rw [hW0]; exact hI.alloc _ hi
    refine ⟨fn, _, assign, body, hy, roundIn_of_wpIn hfn (hassign _ k W _ ?_)⟩
    rw [← hW0]
    refine ⟨_, run_beginRound l0 (by rw [hR]), ?_⟩
    obtain ⟨W2, hW2⟩ : ∃ W2, W2 = W0.putObj (s + 1) (.loop { R .ready none with state := .busy }) := ⟨_, rfl⟩
    have l2 : W2.heap[s + 1]? = some (.loop { R .ready none with state := .busy }) := by rw [hW2]; exact World.putObj_heap_same (Array.getElem?_eq_some_iff.1 l0).1
    have d2 : W2.heap[s]? = some (.deferred (some [])) := by rw [hW2]; exact (World.putObj_heap_other (by omega)).trans d0
    have c2 : KeepC W W2 := c0.trans (by rw [hW2]; exact KeepC.put _ l0 rfl)
    have i2 : I k W2 := by rw [hW2]; exact hI.put _ i0 (by omega)
    have b2 : Blk W2 W.heap.size t (vs k) := by rw [hW2]; exact (World.putObj_heap_other (by omega)).trans b0
    rw [← hW2]
    refine wpIn_mono (hbody _ k W.heap.size W2 hk i2 (by omega) b2) ?_
    have shut : ∀ (jump : Option Code) (W3 : World), (∀ (i : Nat) (o : Obj), w.heap.size ≤ i → W2.heap[i]? = some o → o.isCells = false → W3.heap[i]? = some o) →
        ∃ W4, W4 = W3.putObj (s + 1) (.loop (R (if jump.isNone then .ready else .done) jump)) ∧ (Instr.endRound (s + 1) jump).run P W3 = .ok (.bool jump.isNone) W4 ∧
          (W4.heap[s + 1]? = some (.loop (R (if jump.isNone then .ready else .done) jump)) ∧ W4.heap[s]? = some (.deferred (some []))) ∧ KeepC W3 W4 := fun jump W3 hk3 => by
      have l3 := hk3 (s + 1) _ (by omega) l2 rfl
      have d3 := hk3 s _ (by omega) d2 rfl
      have hend := run_endRound (P := P) jump l3
      refine ⟨_, rfl, ?_, ⟨World.putObj_heap_same (Array.getElem?_eq_some_iff.1 l3).1, (World.putObj_heap_other (by omega)).trans d3⟩, KeepC.put _ l3 rfl⟩
      rw [hend]; simp only [hR]
    rintro e a3 W3 hp
    cases e with
    | normal =>
      obtain ⟨q1, q2, q3⟩ := hp
      obtain ⟨W4, e4, r4, p4, c4⟩ := shut none W3 q2
      exact ⟨_, _, r4, .inl ⟨rfl, ⟨by rw [e4]; exact hI.put _ q3 (by omega), p4⟩, (c2.trans q1).trans c4⟩⟩
    | ret =>
      obtain ⟨q2, q3⟩ := hp
      obtain ⟨W4, e4, r4, p4, c4⟩ := shut (some .ret) W3 q2
      exact ⟨_, _, r4, .inr ⟨rfl, by rw [e4]; exact hX.put _ q3 (by omega), p4⟩⟩
    | exit id => exact hp.elim
    | goto t => exact hp.elim
    | panic ch => exact hp.elim
    | outgrown => exact hp.elim
  · rintro e W2 ⟨⟨v, rfl⟩, (⟨hi, hl, hd⟩ | ⟨k, hk, hx, hl, hd⟩)⟩
    · have hend := run_endLoop (P := P) hl (by rw [hR]; simp)
      exact ⟨_, _, hend, by rw [hR]; exact hdone s _ (by omega) (hI.put _ hi (by omega)) ((World.putObj_heap_other (by omega)).trans hd)⟩
    · have hend := run_endLoop (P := P) hl (by rw [hR]; simp)
      exact ⟨_, _, hend, by rw [hR]; exact hstop s k _ (by omega) hk (hX.put _ hx (by omega)) ((World.putObj_heap_other (by omega)).trans hd)⟩
theorem round_op {P : Program} {o : Oper} {a : Act} {w : World} {K : Act → World → Prop} {Q : Exit → Act → World → Prop} {l n : Nat} (hd : ∀ c, o.op ≠ .defer c) (h : o.wp P a w K Q) : o.wpIn (Fence.wide.inRound l) n P a w K Q := by
  refine ⟨fun _ _ => trivial, ?_⟩
  rw [show (Fence.wide.inRound l).round = some l from rfl, Oper.semAt_some l _ _ hd]
  unfold Oper.wp at h
  generalize (execOp a.eval o).run P w = r at *
  cases r with
  | ok x w' =>
    cases x with
    | value v => exact h
    | skip => exact h
    | defer d => exact h
    | enter f args => exact ⟨fun e => (by cases e), CallsIn.inRound l (callsIn_wide.2 h)⟩
    | row row args => exact ⟨fun e => (by cases e), fun c cs _ => by
        obtain ⟨v, w', r, s⟩ := h c cs
        exact ⟨v, w', r, stepsIn_wide.2 s⟩⟩
    | _ => exact h.elim
  | halt x w' => cases x <;> first | exact h | exact h.elim
theorem round_any {P : Program} {md : Region.Mode} {ops : Array Oper} {Q : Exit → Act → World → Prop} {l n : Nat} (hL : ∀ a w, ¬ Q .outgrown a w) (hd : ∀ (i : Nat) (o : Oper), ops[i]? = some o → ∀ c, o.op ≠ .defer c) :
    ∀ (fuel : Nat) (listed : Array Bool) (a : Act) (w : World), wpAny P md ops Q fuel listed a w → wpAnyIn (Fence.wide.inRound l) n P md ops Q fuel listed a w
  | 0, _, _, _, h => h
  | fuel + 1, listed, a, w, h => ⟨h.1, fun i hi => by
    have h1 := h.2 i hi
    unfold wpOpIn
    unfold wpOp at h1
    cases ho : ops[i]? with
    | none => rw [ho] at h1; exact round_any hL hd fuel _ _ _ h1
    | some o =>
      rw [ho] at h1
      dsimp only at h1 ⊢
      split
      · rename_i hw
        rw [if_pos hw] at h1
        exact Oper.wpIn_mono (fun a w k => round_any hL hd fuel _ a w k) (round_op (hd i o ho) (h1.resolve_right fun h => by obtain ⟨_, a, w, q⟩ := h; exact hL a w q))
      · rename_i hw
        rw [if_neg hw] at h1
        exact ⟨fun _ _ => trivial, round_any hL hd fuel _ _ _ h1⟩⟩
/-- no operation defers a call -/
def noDefr (ops : Array Oper) : Bool := ops.all fun o => match o.op with
  | .defer _ => false
  | _ => true
theorem noDefr_spec {ops : Array Oper} (h : noDefr ops = true) (i : Nat) (o : Oper) (ho : ops[i]? = some o) (c : Call) : o.op ≠ .defer c := fun e => by
  unfold noDefr at h
  rw [Array.all_eq_true] at h
  obtain ⟨hi, rfl⟩ := Array.getElem?_eq_some_iff.1 ho
  have := h i hi
  rw [e] at this
  cases this
theorem wpIn_region_held {P : Program} {id : Nat} {ops : Array Oper} {S : World → Prop} {Q : Exit → Act → World → Prop} {a : Act} {w : World} {l n : Nat} (hm : P.follows .mixedOrders = true) (hd : noDefr ops = true) (hL : ∀ a w, ¬ Q .outgrown a w)
    (h : wpAnyH P .any ops Q S ops.size (Array.replicate ops.size false) a { w with drawn := w.drawn + 1 }) : (Code.region id ops true).wpIn (Fence.wide.inRound l) n P Q a w :=
  wpIn_region_any hm (round_any hL (noDefr_spec hd) _ _ _ _ (wpAny_of_held _ _ _ _ h))
theorem wpOp_goE {P : Program} {ops : Array Oper} {Q : Exit → Act → World → Prop} {i : Nat} {o : Oper} {K : Act → World → Prop} {a : Act} {w : World} (ho : ops[i]? = some o) (hw : Region.wanted o (yielded ops a.tmps) = true)
    (h : ∀ K' : Act → World → Prop, (∀ a w, K a w → K' a w) → Oper.wp P o a w K' Q) : wpOp P ops Q i K a w :=
  wpOp_step ho fun K' hK => by rw [if_pos hw]; exact h K' hK
/-- number i first, its slot by its number -/
theorem takeD {P : Program} {md : Region.Mode} {ops : Array Oper} {Q : Exit → Act → World → Prop} {S : World → Prop} {i : Nat} {oi : Oper} {d : Option Tmp} {v : Value} {fuel : Nat} {listed : Array Bool} {a : Act} {w : World} (hi : ops[i]? = some oi) (hd : oi.dst = d)
    (hs : Region.noSelect ops = true) (hf : Region.free md ops listed i = true) (hr : (Region.ready md ops listed).contains i = true)
    (hQ : ∀ c a w, Q (.panic c) (a.put d v) w → Q (.panic c) a w) (hy : YieldsIf P ops S oi v a) (hS : S w)
    (h : wpAnyH P md ops Q S fuel (listed.setIfInBounds i true) (a.put d v) w) : wpAnyH P md ops Q S (fuel + 1) listed a w := by
  subst hd
  exact wpAnyH_take hi hs hf hr hQ hy hS h
/-- the slots, brought to one form -/
theorem actNorm {P : Program} {md : Region.Mode} {ops : Array Oper} {Q : Exit → Act → World → Prop} {S : World → Prop} {fuel : Nat} {listed : Array Bool} {a : Act} {w : World} (h : ∀ a', a = a' → wpAnyH P md ops Q S fuel listed a' w) : wpAnyH P md ops Q S fuel listed a w := h a rfl
end Go.Proofs.Ytlikmlhlfbdchaa
/- nest: the directions in which two outlines may be apart, as the iterator hands them out. -/
namespace Go.Proofs.Ytlikmlhlfbdchaa
open Go.RowKit Go.Shelf
attribute [local go_sem] Oper.semAt_some

theorem KeepC.cell {w W : World} (h : KeepC w W) {p : Addr} {v : Value} (hc : w.cell? p = some v) : W.cell? p = some v := by
  obtain ⟨o, ho, hcl⟩ := cells_of_cell hc
  exact (World.cell?_of_block ((h.same _ _ ho hcl).trans ho.symm)).trans hc
theorem KeepC.blk {w W : World} (h : KeepC w W) {b : Nat} {t : TypeId} {vs : Array Value} (hb : Blk w b t vs) : Blk W b t vs := h.same _ _ hb rfl
theorem KeepC.refl (w : World) : KeepC w w := ⟨Nat.le_refl _, fun _ _ h _ => h⟩
theorem KeepC.alloc {w W : World} (h : KeepC w W) (o : Obj) : KeepC w (W.alloc o) := h.trans (KeepC.of_below ((Below.refl _ _).alloc (Nat.le_refl _) _))
theorem KeepC.set {w W : World} (h : KeepC w W) {b i : Nat} (hb : w.heap.size ≤ b) (v : Value) : KeepC w (W.setCell ⟨b, i, none⟩ v) :=
  ⟨by show _ ≤ (W.heap.modify _ _).size; rw [Array.size_modify]; exact h.size, fun k o hk ho => by
    have hlt := (Array.getElem?_eq_some_iff.1 hk).1
    exact (Below.heap_setCell W ⟨b, i, none⟩ v k (by show k ≠ b; omega)).trans (h.same k o hk ho)⟩
theorem KeepC.pts {w W : World} (h : KeepC w W) {A : Option Addr} {l : List Geo.XY} (hp : Pts w A l) : Pts W A l := by
  rcases hp with hp | ⟨b, off, h1, h2, h3⟩
  · exact .inl hp
  · exact .inr ⟨b, off, h1, Nat.lt_of_lt_of_le h2 h.size, fun k hk => ⟨h.cell (h3 k hk).1, h.cell (h3 k hk).2⟩⟩
theorem Far.set {B : Nat} {J : Nat → World → Prop} (h : Far B J) {k b i : Nat} {W : World} (v : Value) (hj : J k W) (hl : B ≤ b) : J k (W.setCell ⟨b, i, none⟩ v) :=
  h k W _ (some b) hj ⟨rfl, rfl, rfl, by show _ ≤ (W.heap.modify _ _).size; rw [Array.size_modify]; exact Nat.le_refl _, fun j _ e => Below.heap_setCell W ⟨b, i, none⟩ v j (fun e' => e (by rw [e']))⟩ (fun _ e => by cases e; exact hl)
theorem Far.mono {B C : Nat} {J : Nat → World → Prop} (h : Far B J) (hc : B ≤ C) : Far C J := fun k W W' row hj hg hr => h k W W' row hj hg (fun r e => Nat.le_trans hc (hr r e))

namespace Ne
/-- the side ahead of corner m -/
def pv (l : List Geo.XY) (m : Nat) : Nat := if m = 0 then l.length - 1 else m - 1
theorem pv_lt {l : List Geo.XY} {m : Nat} (hm : m < l.length) : pv l m < l.length := by unfold pv; split <;> omega
theorem pv_next {l : List Geo.XY} {m : Nat} (hm : m < l.length) : (pv l m + 1) % l.length = m := by
  unfold pv
  split
  · rw [show l.length - 1 + 1 = l.length by omega, Nat.mod_self]; omega
  · rw [show m - 1 + 1 = m by omega]; exact Nat.mod_eq_of_lt hm
theorem pv_succ (l : List Geo.XY) (m : Nat) : pv l (m + 1) = m := by unfold pv; rw [if_neg (by omega)]; rfl
/-- the directions, in the order in which they come -/
def dirs (o p : List Geo.XY) (k : Nat) : Geo.XY :=
  if k = 0 then (1, 0) else if k = 1 then (0, 1) else if k < 2 + o.length then sdir o (pv o (k - 2)) else sdir p (pv p (k - 2 - o.length))
theorem dirs_o {o p : List Geo.XY} {m : Nat} (h : m < o.length) : dirs o p (2 + m) = sdir o (pv o m) := by
  unfold dirs; rw [if_neg (by omega), if_neg (by omega), if_pos (by omega), show 2 + m - 2 = m by omega]
theorem dirs_p (o p : List Geo.XY) (m : Nat) : dirs o p (2 + o.length + m) = sdir p (pv p m) := by
  unfold dirs; rw [if_neg (by omega), if_neg (by omega), if_neg (by omega), show 2 + o.length + m - 2 - o.length = m by omega]
theorem sdir_pv {l : List Geo.XY} {m : Nat} (hm : m < l.length) : sdir l (pv l m) = ((Geo.X l m).2 - (Geo.X l (pv l m)).2, (Geo.X l (pv l m)).1 - (Geo.X l m).1) := by
  unfold sdir; rw [pv_next hm]
def xyV (d : Geo.XY) : Array Value := #[.agg #[.int .i64 d.1, .int .i64 d.2]]
end Ne

set_option maxRecDepth 100000 in
set_option maxHeartbeats 4000000 in
theorem dirs1_in (n : Nat) (hn1 : 1 ≤ n) (l Bo Bp : Nat) (A B : Option Addr) (o p : List Geo.XY) (c c' N : Nat) (hN : N = 2 + o.length + p.length) (h0 : 0 < o.length) (hl : o.length ≤ 64) (k0 : 0 < p.length) (kl : p.length ≤ 64)
    (ho : Ne.AllBd o) (hp : Ne.AllBd p) (J X : Nat → World → Prop) (w : World) (hJ : Far w.heap.size J)
    (hY : ∀ k W1, k < N → J k W1 → YieldAt Fence.wide (n - 1) Try.prog l (Ne.xyV (Ne.dirs o p k)) W1 fun e W' => (e = .returned (.bool true) ∧ J (k + 1) W' ∧ KeepC W1 W') ∨ (e = .returned (.bool false) ∧ X k W'))
    (hA : Pts w A o) (hB : Pts w B p) (hc1 : w.cell? ⟨Bo, 0, none⟩ = some (.slice A o.length c)) (hc2 : w.cell? ⟨Bp, 0, none⟩ = some (.slice B p.length c')) (hs : J 0 w) :
    CallsIn Fence.wide n Try.prog 113 #[.func (.yield l) #[] #[], .pointer (some ⟨Bo, 0, none⟩), .pointer (some ⟨Bp, 0, none⟩)] w fun e W' => (∃ v, e = .returned v) ∧ (J N W' ∨ ∃ k, k < N ∧ X k W') := by
  have HA := Lib.hid hA
  have HB := Lib.hid hB
  have HO := Lib.hid ho
  have HP := Lib.hid hp
  have HY := Lib.hid hY
  have HN := Lib.hid hN
  have HJ := Lib.hid hJ
  clear hA hB ho hp hY hN hJ
  obtain ⟨fn, tmps, assign, body, hy, hR⟩ := HY.out 0 w (by have := HN.out; omega) hs
  have HR := Lib.hid hR
  simp only [show Ne.xyV (Ne.dirs o p 0) = #[.agg #[.int .i64 1, .int .i64 0]] from rfl] at hy
  clear hR
  refine callsIn_of_wp Try.func113 rfl trivial ?_ rfl
  simp only [Try.ntmps113, List.size_toArray, List.length_cons, List.length_nil, Nat.reduceAdd, Nat.reduceSub, Array.replicate_succ, Array.replicate_zero, List.push_toArray, List.append_toArray, List.nil_append, List.cons_append]
  gi_wp2
  refine HR.out.mono ?_
  clear hs hy HR
  rintro e w1 (⟨rfl, j1, q1⟩ | ⟨rfl, x1⟩)
  case inr =>
    gi_wp2
    repeat (refine ⟨fun f (h : none = some f) => (by cases h), ?_⟩; gi_wp2)
    refine bodyPost_ret (results_none rfl _ _ _) rfl ?_
    exact ⟨⟨_, rfl⟩, .inr ⟨0, by have := HN.out; omega, x1⟩⟩
  obtain ⟨fn, tmps, assign, body, hy, hR⟩ := HY.out 1 w1 (by have := HN.out; omega) j1
  have HR := Lib.hid hR
  simp only [show Ne.xyV (Ne.dirs o p 1) = #[.agg #[.int .i64 0, .int .i64 1]] from rfl] at hy
  clear hR
  gi_wp2
  refine HR.out.mono ?_
  clear hy HR
  rintro e w2 (⟨rfl, j2, q2⟩ | ⟨rfl, x2⟩)
  case inr =>
    gi_wp2
    refine bodyPost_ret (results_none rfl _ _ _) rfl ?_
    exact ⟨⟨_, rfl⟩, .inr ⟨1, by have := HN.out; omega, x2⟩⟩
  have kc2 := q1.trans q2
  have e1 : w2.cell? ⟨Bo, 0, none⟩ = some (.slice A o.length c) := kc2.cell hc1
  have e2 : w2.cell? ⟨Bp, 0, none⟩ = some (.slice B p.length c') := kc2.cell hc2
  clear q1 q2 j1 hc1 hc2
  gi_wp2
  have bG := Blk.new w2 22 #[.slice A o.length c, .slice B p.length c']
  have kc3 : KeepC w (w2.alloc (.cells #[.slice A o.length c, .slice B p.length c'] 22)) := kc2.alloc _
  have j3 : J 2 (w2.alloc (.cells #[.slice A o.length c, .slice B p.length c'] 22)) := HJ.out.alloc _ j2
  have hs3 : (w2.alloc (.cells #[.slice A o.length c, .slice B p.length c'] 22)).heap.size = w2.heap.size + 1 := by simp
  have hs2 := kc2.size
  generalize w2.alloc (.cells #[.slice A o.length c, .slice B p.length c'] 22) = w3 at *
  clear kc2 j2 e1 e2
  gi_loopw [23] (fun i wr => ∃ k : Nat, k ≤ 2 ∧ i = .int .i64 k ∧ J (if k = 0 then 2 else if k = 1 then 2 + o.length else N) wr ∧ KeepC w3 wr) (fun i _ => 2 - (intOf i).toNat)
  case atStart => exact ⟨0, by omega, rfl, j3, KeepC.refl _⟩
  case round =>
    clear j3
    obtain ⟨k, hk, rfl, jk, kr⟩ := hrel
    obtain ⟨wo, rfl⟩ : ∃ wo, wo = wr := ⟨_, rfl⟩
    have bG1 := kr.blk bG
    by_cases hlt : k < 2
    · obtain ⟨L, AL, cL, base, hL⟩ : ∃ (L : List Geo.XY) (AL : Option Addr) (cL base : Nat), (k = 0 ∧ L = o ∧ AL = A ∧ cL = c ∧ base = 2) ∨ (k = 1 ∧ L = p ∧ AL = B ∧ cL = c' ∧ base = 2 + o.length) := by
        by_cases h : k = 0
        · exact ⟨o, A, c, 2, .inl ⟨h, rfl, rfl, rfl, rfl⟩⟩
        · exact ⟨p, B, c', 2 + o.length, .inr ⟨by omega, rfl, rfl, rfl, rfl⟩⟩
      have hck : wo.cell? ⟨w2.heap.size, k, none⟩ = some (.slice AL L.length cL) := by
        rw [bG1.cell]
        rcases hL with ⟨rfl, rfl, rfl, rfl, _⟩ | ⟨rfl, rfl, rfl, rfl, _⟩ <;> rfl
      have hLl : 0 < L.length ∧ L.length ≤ 64 := by rcases hL with ⟨_, rfl, _⟩ | ⟨_, rfl, _⟩ <;> omega
      obtain ⟨hL0, hL64⟩ := hLl
      have HL : Hid (Ne.AllBd L ∧ Pts w AL L) := Lib.hid (by
        rcases hL with ⟨_, rfl, rfl, _⟩ | ⟨_, rfl, rfl, _⟩
        · exact ⟨HO.out, HA.out⟩
        · exact ⟨HP.out, HB.out⟩)
      have HD : Hid (∀ m, m < L.length → base + m < N ∧ Ne.dirs o p (base + m) = Ne.sdir L (Ne.pv L m)) := Lib.hid (fun m hm => by
        have := HN.out
        rcases hL with ⟨_, rfl, _, _, rfl⟩ | ⟨_, rfl, _, _, rfl⟩
        · exact ⟨by omega, Ne.dirs_o hm⟩
        · exact ⟨by omega, Ne.dirs_p o L m⟩)
      have HE : Hid ((if k + 1 = 0 then 2 else if k + 1 = 1 then 2 + o.length else N) = base + L.length) := Lib.hid (by
        have := HN.out
        rcases hL with ⟨rfl, rfl, _, _, rfl⟩ | ⟨rfl, rfl, _, _, rfl⟩
        · simp
        · simp; omega)
      have jb : J base wo := by rcases hL with ⟨rfl, _, _, _, rfl⟩ | ⟨rfl, _, _, _, rfl⟩ <;> exact jk
      clear hL bG1 jk
      obtain ⟨b, off, rfl, hbb, hcc⟩ := pts_open ((kc3.trans kr).pts HL.out.2) hL0
      have HCC := Lib.hid hcc
      clear hcc
      have c1 : wo.cell? ⟨b, off + (L.length - 1) * 2, none⟩ = some (.int .i64 (Geo.X L (L.length - 1)).1) := (HCC.out (L.length - 1) (by omega)).1
      have c2 : wo.cell? ⟨b, off + (L.length - 1) * 2 + 1, none⟩ = some (.int .i64 (Geo.X L (L.length - 1)).2) := (HCC.out (L.length - 1) (by omega)).2
      have hltd : decide ((k : Int) < 2) = true := by simp; omega
      have e6 : ¬ L.length = 0 := by omega
      have e7 : ¬ L = [] := by intro h; rw [h] at hL0; simp at hL0
      gi_wp2
      have bA := Blk.new wo 76 #[.int .i64 (Geo.X L (L.length - 1)).1, .int .i64 (Geo.X L (L.length - 1)).2]
      have jb1 := HJ.out.alloc (.cells #[.int .i64 (Geo.X L (L.length - 1)).1, .int .i64 (Geo.X L (L.length - 1)).2] 76) jb
      have ka : KeepC wo (wo.alloc (.cells #[.int .i64 (Geo.X L (L.length - 1)).1, .int .i64 (Geo.X L (L.length - 1)).2] 76)) := (KeepC.refl _).alloc _
      generalize wo.alloc (.cells #[.int .i64 (Geo.X L (L.length - 1)).1, .int .i64 (Geo.X L (L.length - 1)).2] 76) = w4 at *
      have hsb := (kc3.trans kr).size
      clear hck c1 c2 jb e6 hltd
      gi_loopw [35] (fun i wr => ∃ m : Nat, m ≤ L.length ∧ i = .int .i64 m ∧ J (base + m) wr ∧ KeepC wo wr ∧ Blk wr wo.heap.size 76 #[.int .i64 (Geo.X L (Ne.pv L m)).1, .int .i64 (Geo.X L (Ne.pv L m)).2]) (fun i _ => L.length - (intOf i).toNat)
      case atStart => exact ⟨0, Nat.zero_le _, rfl, jb1, ka, bA⟩
      case round =>
        clear jb1 bA ka
        obtain ⟨m, hm, rfl, jm, km, bA⟩ := hrel
        by_cases hml : m < L.length
        · obtain ⟨hbm, hdm⟩ := HD.out m hml
          have hpl := Ne.pv_lt hml
          rw [Ne.sdir_pv hml] at hdm
          obtain ⟨y1, y2, y3, y4⟩ := HL.out.1 m hml
          obtain ⟨z1, z2, z3, z4⟩ := HL.out.1 _ hpl
          have c1 : wr.cell? ⟨b, off + m * 2, none⟩ = some (.int .i64 (Geo.X L m).1) := km.cell (HCC.out m hml).1
          have c2 : wr.cell? ⟨b, off + m * 2 + 1, none⟩ = some (.int .i64 (Geo.X L m).2) := km.cell (HCC.out m hml).2
          have HV : Hid (Ne.pv L (m + 1) = m) := Lib.hid (Ne.pv_succ L m)
          obtain ⟨x, hx⟩ : ∃ x, Geo.X L m = x := ⟨_, rfl⟩
          obtain ⟨y, hy⟩ : ∃ y, Geo.X L (Ne.pv L m) = y := ⟨_, rfl⟩
          have HX := Lib.hid hx
          rw [hx, hy] at hdm
          rw [hy] at bA z1 z2 z3 z4
          rw [hx] at c1 c2 y1 y2 y3 y4
          clear hx hy
          obtain ⟨W4, hW4⟩ : ∃ W4, W4 = wr.alloc (.cells #[.int .i64 x.1, .int .i64 x.2] 76) := ⟨_, rfl⟩
          have b4 : Blk W4 wr.heap.size 76 #[.int .i64 x.1, .int .i64 x.2] := by rw [hW4]; exact Blk.new _ _ _
          have bA4 : Blk W4 wo.heap.size 76 #[.int .i64 y.1, .int .i64 y.2] := by rw [hW4]; exact bA.alloc _
          have q1 := b4.cell 0
          have q2 := b4.cell 1
          have q3 := bA4.cell 0
          have q4 := bA4.cell 1
          simp only [List.getElem?_toArray, List.getElem?_cons_zero, List.getElem?_cons_succ] at q1 q2 q3 q4
          have j4 : J (base + m) W4 := by rw [hW4]; exact HJ.out.alloc _ jm
          have k4 : KeepC wo W4 := by rw [hW4]; exact km.alloc _
          obtain ⟨fn, tmps, assign, body, hy, hR⟩ := HY.out (base + m) W4 hbm j4
          have HR := Lib.hid hR
          rw [hdm] at hy
          simp only [Ne.xyV] at hy
          clear hR jm km bA hdm
          rw [hW4] at q1 q2 q3 q4 hy
          gi_wp2
          rw [← hW4]
          refine HR.out.mono ?_
          clear hy HR q1 q2 q3 q4
          rintro e w5 (⟨rfl, j5, k5⟩ | ⟨rfl, x5⟩)
          case inr =>
            gi_wp2
            refine bodyPost_ret (results_none rfl _ _ _) rfl ?_
            exact ⟨⟨_, rfl⟩, .inr ⟨_, hbm, x5⟩⟩
          have b5 := k5.blk b4
          have bA5 := k5.blk bA4
          have r1 := b5.cell 0
          have r2 := b5.cell 1
          have r3 := bA5.cell 0
          have r4 := bA5.cell 1
          have f3 := bA5.frozen 0
          have f4 := bA5.frozen 1
          simp only [List.getElem?_toArray, List.getElem?_cons_zero, List.getElem?_cons_succ] at r1 r2 r3 r4
          have bA6 := (bA5.set_ 0 (.int .i64 x.1)).set_ 1 (.int .i64 x.2)
          have kf := (k4.trans k5)
          have k6 := (kf.set (b := wo.heap.size) (i := 0) (Nat.le_refl _) (.int .i64 x.1)).set (b := wo.heap.size) (i := 1) (Nat.le_refl _) (.int .i64 x.2)
          have j6 := HJ.out.set (b := wo.heap.size) (i := 1) (.int .i64 x.2) (HJ.out.set (b := wo.heap.size) (i := 0) (.int .i64 x.1) j5 hsb) hsb
          clear b4 bA4 k4 j4 hW4 b5 k5 kf j5
          gi_wp2
          go_roundw
          case rel => exact ⟨m + 1, by omega, by go_num, j6, k6, by rw [HV.out, HX.out]; exact bA6⟩
          case measure => simp [intOf]; omega
        · obtain rfl : m = L.length := by omega
          gi_wp2
          go_roundw
          case rel => exact ⟨k + 1, by omega, by go_num, by rw [HE.out]; exact jm, kr.trans km⟩
          case measure => simp [intOf]; omega
    · obtain rfl : k = 2 := by omega
      gi_wp2
      go_end0
      exact ⟨⟨_, rfl⟩, .inl jk⟩
end Go.Proofs.Ytlikmlhlfbdchaa
/- nest: areApart of the program. -/
namespace Go.Proofs.Ytlikmlhlfbdchaa
open Go.RowKit Go.Shelf
attribute [local go_sem] Oper.semAt_some

namespace Ne
theorem pv_of {l : List Geo.XY} {j : Nat} (hj : j < l.length) : pv l ((j + 1) % l.length) = j := by
  by_cases h : j + 1 = l.length
  · rw [h, Nat.mod_self]; unfold pv; rw [if_pos rfl]; omega
  · rw [Nat.mod_eq_of_lt (by omega)]; exact pv_succ l j
theorem besAny_yes {o p : List Geo.XY} {g : Int} {l : List Geo.XY} {k : Nat} : ∀ {m : Nat}, m < k → bes o p g (sdir l m) = true → besAny o p g l k = true := by
  intro m hm h
  refine besAny_mono (m := m + 1) (by omega) ?_
  unfold besAny; rw [h]; simp
theorem besAny_no {o p : List Geo.XY} {g : Int} {l : List Geo.XY} : ∀ {k : Nat}, (∀ m, m < k → bes o p g (sdir l m) = false) → besAny o p g l k = false
  | 0, _ => rfl
  | k + 1, h => by unfold besAny; rw [besAny_no (fun m hm => h m (by omega)), h k (by omega)]; rfl
theorem ap_yes {o p : List Geo.XY} {g : Int} {k : Nat} (hk : k < 2 + o.length + p.length) (h : bes o p g (dirs o p k) = true) : apB o p g = true := by
  unfold apB
  by_cases e0 : k = 0
  · subst e0; rw [show bes o p g (1, 0) = true from h]; simp
  by_cases e1 : k = 1
  · subst e1; rw [show bes o p g (0, 1) = true from h]; simp
  by_cases e2 : k < 2 + o.length
  · obtain ⟨m, rfl⟩ : ∃ m, k = 2 + m := ⟨k - 2, by omega⟩
    rw [dirs_o (by omega)] at h
    rw [besAny_yes (pv_lt (show m < o.length by omega)) h]; simp
  · obtain ⟨m, rfl⟩ : ∃ m, k = 2 + o.length + m := ⟨k - 2 - o.length, by omega⟩
    rw [dirs_p] at h
    rw [besAny_yes (pv_lt (show m < p.length by omega)) h]; simp
theorem ap_no {o p : List Geo.XY} {g : Int} (h0 : 0 < o.length) (k0 : 0 < p.length) (h : ∀ k, k < 2 + o.length + p.length → bes o p g (dirs o p k) = false) : apB o p g = false := by
  unfold apB
  rw [show bes o p g (1, 0) = false from h 0 (by omega), show bes o p g (0, 1) = false from h 1 (by omega)]
  rw [besAny_no (l := o) (fun m hm => ?_), besAny_no (l := p) (fun m hm => ?_)]
  · rfl
  · have hq := Nat.mod_lt (m + 1) k0
    have := h (2 + o.length + (m + 1) % p.length) (by omega)
    rwa [dirs_p, pv_of hm] at this
  · have hq := Nat.mod_lt (m + 1) h0
    have := h (2 + (m + 1) % o.length) (by omega)
    rwa [dirs_o hq, pv_of hm] at this
end Ne

set_option maxRecDepth 100000 in
set_option maxHeartbeats 1000000 in
theorem directions_in (n : Nat) (A B : Option Addr) (a b c c' : Nat) (w : World) :
    CallsIn Fence.wide n Try.prog 88 #[.slice A a c, .slice B b c'] w fun e w' => e = .returned (.func (.func 113) #[] #[.pointer (some ⟨w.heap.size, 0, none⟩), .pointer (some ⟨w.heap.size + 1, 0, none⟩)]) ∧ w' = (w.alloc (.cells #[.slice A a c] 22)).alloc (.cells #[.slice B b c'] 22) := by
  refine callsIn_of_wp Try.func88 rfl trivial ?_ rfl
  simp only [Try.ntmps88, List.size_toArray, List.length_cons, List.length_nil, Nat.reduceAdd, Nat.reduceSub, Array.replicate_succ, Array.replicate_zero, List.push_toArray, List.append_toArray, List.nil_append, List.cons_append]
  gi_wp2
  go_ret
  exact ⟨rfl, rfl⟩

set_option maxRecDepth 100000 in
set_option maxHeartbeats 4000000 in
theorem areapart_in (A B : Option Addr) (o p : List Geo.XY) (c c' : Nat) (g : Int) (h0 : 2 ≤ o.length) (hl : o.length ≤ 64) (hoc : o.length ≤ c) (k0 : 2 ≤ p.length) (kl : p.length ≤ 64) (hpc : p.length ≤ c')
    (ho : Ne.AllBd o) (hp : Ne.AllBd p) (hd : ∀ k, k < 2 + o.length + p.length → Ne.Bd (Ne.dirs o p k) ∧ Ne.btw o p (Ne.dirs o p k) ≤ 4294967295) (hg : 0 ≤ g) (hg' : g ≤ 2000)
    (r : Bool) (hr : Ne.apB o p g = r) (w : World) (hA : Pts w A o) (hB : Pts w B p) :
    CallsIn Fence.wide 5 Try.prog 50 #[.slice A o.length c, .slice B p.length c', .int .i64 g] w fun e w' => e = .returned (.bool r) ∧ Below w.heap.size w w' := by
  have HA := Lib.hid hA
  have HB := Lib.hid hB
  have HO := Lib.hid ho
  have HP := Lib.hid hp
  have HD := Lib.hid hd
  have HR := Lib.hid hr
  clear hA hB ho hp hd hr
  refine callsIn_of_wp_marks Try.func50 rfl trivial ?_ rfl
  simp only [Try.ntmps50, List.size_toArray, List.length_cons, List.length_nil, Nat.reduceAdd, Nat.reduceSub, Array.replicate_succ, Array.replicate_zero, List.push_toArray, List.append_toArray, List.nil_append, List.cons_append]
  gi_wp2_with (refine ⟨trivial, ?_⟩; gi_at_call 88; refine (directions_in _ _ _ _ _ _ _ _).mono ?_; rintro e w' ⟨rfl, rfl⟩)
  have bO := (((((Blk.new w 22 #[.slice A o.length c]).alloc (.cells #[.slice B p.length c'] 22)).alloc (.cells #[.int .i64 g] 3)).alloc (.cells #[.bool false] 4)).alloc (.cells #[.slice A o.length c] 22)).alloc (.cells #[.slice B p.length c'] 22)
  have bP := ((((Blk.new (w.alloc (.cells #[.slice A o.length c] 22)) 22 #[.slice B p.length c']).alloc (.cells #[.int .i64 g] 3)).alloc (.cells #[.bool false] 4)).alloc (.cells #[.slice A o.length c] 22)).alloc (.cells #[.slice B p.length c'] 22)
  have bG := (((Blk.new ((w.alloc (.cells #[.slice A o.length c] 22)).alloc (.cells #[.slice B p.length c'] 22)) 3 #[.int .i64 g]).alloc (.cells #[.bool false] 4)).alloc (.cells #[.slice A o.length c] 22)).alloc (.cells #[.slice B p.length c'] 22)
  have bR := ((Blk.new (((w.alloc (.cells #[.slice A o.length c] 22)).alloc (.cells #[.slice B p.length c'] 22)).alloc (.cells #[.int .i64 g] 3)) 4 #[.bool false]).alloc (.cells #[.slice A o.length c] 22)).alloc (.cells #[.slice B p.length c'] 22)
  have cO := (Blk.new ((((w.alloc (.cells #[.slice A o.length c] 22)).alloc (.cells #[.slice B p.length c'] 22)).alloc (.cells #[.int .i64 g] 3)).alloc (.cells #[.bool false] 4)) 22 #[.slice A o.length c]).alloc (.cells #[.slice B p.length c'] 22)
  have cP := (Blk.new (((((w.alloc (.cells #[.slice A o.length c] 22)).alloc (.cells #[.slice B p.length c'] 22)).alloc (.cells #[.int .i64 g] 3)).alloc (.cells #[.bool false] 4)).alloc (.cells #[.slice A o.length c] 22)) 22 #[.slice B p.length c'])
  have hB0 : Below w.heap.size w ((((((w.alloc (.cells #[.slice A o.length c] 22)).alloc (.cells #[.slice B p.length c'] 22)).alloc (.cells #[.int .i64 g] 3)).alloc (.cells #[.bool false] 4)).alloc (.cells #[.slice A o.length c] 22)).alloc (.cells #[.slice B p.length c'] 22)) :=
    ((((((Below.refl _ w).alloc (Nat.le_refl _) _).alloc (by simp) _).alloc (by simp; omega) _).alloc (by simp; omega) _).alloc (by simp; omega) _).alloc (by simp; omega) _
  have hsz : ((((((w.alloc (.cells #[.slice A o.length c] 22)).alloc (.cells #[.slice B p.length c'] 22)).alloc (.cells #[.int .i64 g] 3)).alloc (.cells #[.bool false] 4)).alloc (.cells #[.slice A o.length c] 22)).alloc (.cells #[.slice B p.length c'] 22)).heap.size = w.heap.size + 6 := by simp
  simp only [World.size_alloc] at bP bG bR cO cP
  obtain ⟨W0, hW0⟩ : ∃ W0, (((((w.alloc (.cells #[.slice A o.length c] 22)).alloc (.cells #[.slice B p.length c'] 22)).alloc (.cells #[.int .i64 g] 3)).alloc (.cells #[.bool false] 4)).alloc (.cells #[.slice A o.length c] 22)).alloc (.cells #[.slice B p.length c'] 22) = W0 := ⟨_, rfl⟩
  rw [hW0] at bO bP bG bR cO cP hB0 hsz ⊢
  clear hW0
  have hA0 := HA.out.below hB0
  have hB0' := HB.out.below hB0
  obtain ⟨N, hN⟩ : ∃ N, N = 2 + o.length + p.length := ⟨_, rfl⟩
  refine range_search (by omega) (gf := 113) (lb := #[.pointer (some ⟨w.heap.size + 1 + 1 + 1 + 1, 0, none⟩), .pointer (some ⟨w.heap.size + 1 + 1 + 1 + 1 + 1, 0, none⟩)]) rfl (enters_of Try.func113 (by kernel_rfl) rfl)
    (enc := fun k => #[.agg #[.int .i64 (Ne.dirs o p k).1, .int .i64 (Ne.dirs o p k).2]]) (N := N)
    (fun l J X W hW hJ _ hY h0' => dirs1_in _ (by omega) l _ _ A B o p c c' N hN (by omega) hl (by omega) kl HO.out HP.out J X W hJ hY (hA0.below hW) (hB0'.below hW) ((cO.below hW cO.lt).cell 0) ((cP.below hW cP.lt).cell 0) h0')
    (fun _ => rfl)
    (fun k W => Below W0.heap.size W0 W ∧ ∀ j, j < k → Ne.bes o p g (Ne.dirs o p j) = false)
    (fun k W => (Below w.heap.size w W ∧ W.heap[w.heap.size + 1 + 1 + 1]? = some (.cells #[.bool true] 4 (0, 0))) ∧ Ne.bes o p g (Ne.dirs o p k) = true)
    ((far_below (Nat.le_refl _) (Nat.le_refl _)).and (far_const _)) (((far_below hB0.size (Nat.le_refl _)).and (far_obj _ (by omega))).and (far_const _)) ⟨Below.refl _ _, fun j hj => absurd hj (by omega)⟩
    (fun k q => { tmps := #[.slice A o.length c, .slice B p.length c', .int .i64 g, .pointer (some ⟨w.heap.size, 0, none⟩), .pointer (some ⟨w.heap.size + 1, 0, none⟩), .pointer (some ⟨w.heap.size + 1 + 1, 0, none⟩), .pointer (some ⟨w.heap.size + 1 + 1 + 1, 0, none⟩),
      .pointer (some ⟨q, 0, none⟩), .slice A o.length c, .slice B p.length c', .func (.func 113) #[] #[.pointer (some ⟨w.heap.size + 1 + 1 + 1 + 1, 0, none⟩), .pointer (some ⟨w.heap.size + 1 + 1 + 1 + 1 + 1, 0, none⟩)],
      .agg #[.int .i64 (Ne.dirs o p k).1, .int .i64 (Ne.dirs o p k).2], undef, undef, undef, undef, undef, undef, undef], defers := [] }) 76 (fun k => #[.int .i64 (Ne.dirs o p k).1, .int .i64 (Ne.dirs o p k).2]) ?assign ?body ?done ?stop
  case assign =>
    intro l k W K hK
    gi_wp2
    exact hK
  case body =>
    rintro l k q W hk ⟨hB, hno⟩ hq hb
    obtain ⟨hdk, hbt⟩ := HD.out k (by omega)
    obtain ⟨x, hx⟩ : ∃ x, Ne.bes o p g (Ne.dirs o p k) = x := ⟨_, rfl⟩
    have HX := Lib.hid hx
    have HNO := Lib.hid hno
    have hbw := hB0.trans (hB.mono hB0.size)
    have e0 := (bO.below hB bO.lt).cell 0
    have e1 := (bP.below hB bP.lt).cell 0
    have e2 := (bG.below hB bG.lt).cell 0
    have e5 := hb.cell 0
    have e6 := hb.cell 1
    have bRW := bR.below hB bR.lt
    simp only [List.getElem?_toArray, List.getElem?_cons_zero, List.getElem?_cons_succ] at e0 e1 e2 e5 e6
    have l0 : w.heap.size < W.heap.size := (bO.below hB bO.lt).lt
    have l1 : w.heap.size + 1 < W.heap.size := (bP.below hB bP.lt).lt
    have l2 : w.heap.size + 1 + 1 < W.heap.size := (bG.below hB bG.lt).lt
    have l5 : q < W.heap.size := hb.lt
    obtain ⟨d, hdd⟩ : ∃ d, Ne.dirs o p k = d := ⟨_, rfl⟩
    rw [hdd] at hdk hbt e5 e6 hx
    rw [hdd]
    obtain ⟨y, hy⟩ : ∃ y, Ne.btw o p d = y := ⟨_, rfl⟩
    have hyl : -5000000000000 ≤ y := by
      have a1 := Ne.lo1_bd hdk HO.out (by omega)
      have a2 := Ne.hi1_bd hdk HO.out (by omega)
      have a3 := Ne.lo1_bd hdk HP.out (by omega)
      have a4 := Ne.hi1_bd hdk HP.out (by omega)
      rw [← hy]; unfold Ne.btw; split <;> omega
    rw [hy] at hbt
    have hfar : Ne.farB y g d = x := by rw [← hx, ← hy]; rfl
    have HBT := Lib.hid (fun V (h : Below W.heap.size W V) => between_b A B o p c c' d h0 (by omega) hoc k0 (by omega) hpc hdk HO.out HP.out y hy V (HA.out.below (hbw.trans (h.mono hbw.size))) (HB.out.below (hbw.trans (h.mono hbw.size))))
    have HIF := Lib.hid (fun V => isfar_b y g d hyl hbt hg hg' hdk x hfar V)
    clear hno hdk hbt hx hy hfar hyl hb
    gi_wp2
    refine wpIn_region_held (S := fun V => Below W.heap.size W V) (by kernel_rfl) (by decide +kernel) (fun _ _ h => h) ?_
    change wpAnyH _ _ _ _ _ _ _ _ (World.drew _)
    have hS : (fun V => Below W.heap.size W V) W.drew := (Below.refl _ _).drew
    generalize World.drew W = V0 at *
    refine wpAnyH_take (i := 0) (v := ?_) rfl (by kernel_rfl) (by decide +kernel) (by decide +kernel) (fun _ _ _ h => h) (Or.inl ⟨by rfl, ?_⟩) hS ?_
    rotate_left
    · intro w' hT; have p0 := (Below.cell hT (p := ⟨w.heap.size, 0, none⟩) l0).trans e0; first | (go_simp; done) | (go_simp; with_reducible rfl)
    refine wpAnyH_take (i := 1) (v := ?_) rfl (by kernel_rfl) (by decide +kernel) (by decide +kernel) (fun _ _ _ h => h) (Or.inl ⟨by rfl, ?_⟩) hS ?_
    rotate_left
    · intro w' hT; have p0 := (Below.cell hT (p := ⟨w.heap.size + 1, 0, none⟩) l1).trans e1; first | (go_simp; done) | (go_simp; with_reducible rfl)
    refine wpAnyH_take (i := 2) (v := ?_) rfl (by kernel_rfl) (by decide +kernel) (by decide +kernel) (fun _ _ _ h => h) (Or.inl ⟨by rfl, ?_⟩) hS ?_
    rotate_left
    · intro w' hT; have p0 := (Below.cell hT (p := ⟨q, 0, none⟩) l5).trans e5; have p1 := (Below.cell hT (p := ⟨q, 1, none⟩) l5).trans e6; first | (go_simp; done) | (go_simp; with_reducible rfl)
    refine wpAnyH_take (i := 4) (v := ?_) rfl (by kernel_rfl) (by decide +kernel) (by decide +kernel) (fun _ _ _ h => h) (Or.inl ⟨by rfl, ?_⟩) hS ?_
    rotate_left
    · intro w' hT; have p0 := (Below.cell hT (p := ⟨w.heap.size + 1 + 1, 0, none⟩) l2).trans e2; first | (go_simp; done) | (go_simp; with_reducible rfl)
    refine wpAnyH_take (i := 5) (v := ?_) rfl (by kernel_rfl) (by decide +kernel) (by decide +kernel) (fun _ _ _ h => h) (Or.inl ⟨by rfl, ?_⟩) hS ?_
    rotate_left
    · intro w' hT; have p0 := (Below.cell hT (p := ⟨q, 0, none⟩) l5).trans e5; have p1 := (Below.cell hT (p := ⟨q, 1, none⟩) l5).trans e6; first | (go_simp; done) | (go_simp; with_reducible rfl)
    refine wpAnyH_all (rs := [3]) (by decide +kernel) (by simp) ?_
    intro i0 hi0
    obtain rfl := List.mem_singleton.1 hi0
    refine wpOp_goE rfl rfl (fun K hK' => ?_)
    go_simp
    refine (HBT.out V0 hS).mono ?_
    rintro e V1 ⟨rfl, hb1⟩
    have hS1 := Below.trans hS (hb1.mono (Below.size hS))
    refine hK' _ _ ⟨hS1, ?_⟩
    clear hK' K
    refine wpAnyH_all (rs := [6]) (by decide +kernel) (by simp) ?_
    intro i0 hi0
    obtain rfl := List.mem_singleton.1 hi0
    refine wpOp_goE rfl rfl (fun K hK' => ?_)
    go_simp
    refine (HIF.out V1).mono ?_
    rintro e V2 ⟨rfl, hb2⟩
    have hS2 := Below.trans hS1 (hb2.mono (Below.size hS1))
    refine hK' _ _ ⟨hS2, ?_⟩
    clear hK' K
    refine wpAnyH_done (by decide +kernel) ?_ _
    have bRV := bRW.below hS2 bRW.lt
    have hf := bRV.frozen 0
    have hc := bRV.cell 0
    simp only [List.getElem?_toArray, List.getElem?_cons_zero] at hc
    clear e0 e1 e2 e5 e6
    cases x with
    | true =>
      gi_wp2
      refine ⟨fun i o' hi ho' hoc' => ?_, ⟨?_, bRV.set_ 0 (.bool true)⟩, HX.out⟩
      · exact (Below.heap_setCell _ _ _ i (by show i ≠ w.heap.size + 1 + 1 + 1; omega)).trans ((hS2.block i (Array.getElem?_eq_some_iff.1 ho').1).trans ho')
      · have := hbw.trans (hS2.mono hbw.size)
        exact this.setCell (p := ⟨w.heap.size + 1 + 1 + 1, 0, none⟩) (by show w.heap.size ≤ w.heap.size + 1 + 1 + 1; omega) _
    | false =>
      gi_wp2
      exact ⟨KeepC.of_below hS2, fun i o' _ ho' _ => (hS2.block i (Array.getElem?_eq_some_iff.1 ho').1).trans ho', hB.trans (hS2.mono hB.size), fun j hj => by
        by_cases h : j = k
        · subst h; exact HX.out
        · exact HNO.out j (by omega)⟩
  case done =>
    rintro D W hD ⟨hB, hno⟩ hK
    have bRW := bR.below hB bR.lt
    have hf := bRW.frozen 0
    have hc := bRW.cell 0
    simp only [List.getElem?_toArray, List.getElem?_cons_zero] at hc
    have hbw := hB0.trans (hB.mono hB0.size)
    have HV : Hid (r = false) := Lib.hid (by rw [← HR.out]; exact Ne.ap_no (by omega) (by omega) (fun k hk => hno k (by omega)))
    gi_wp2
    have hK1 : (W.setCell ⟨w.heap.size + 1 + 1 + 1, 0, none⟩ (.bool false)).heap[D]? = some (.deferred (some [])) := (Below.heap_setCell _ _ _ D (by show D ≠ w.heap.size + 1 + 1 + 1; omega)).trans hK
    refine ⟨by simp, .inl ⟨_, _, rfl, run_takeDeferred hK1, ?_⟩⟩
    have bRX : Blk ((W.setCell ⟨w.heap.size + 1 + 1 + 1, 0, none⟩ (.bool false)).putObj D (.deferred none)) (w.heap.size + 1 + 1 + 1) 4 #[.bool false] := (World.putObj_heap_other (by omega)).trans (bRW.set_ 0 (.bool false))
    have hcX := bRX.cell 0
    simp only [List.getElem?_toArray, List.getElem?_cons_zero] at hcX
    exact ⟨.bool false, by simp [results, Try.results50, go_sem, hcX], by rw [HV.out], (hbw.setCell (p := ⟨w.heap.size + 1 + 1 + 1, 0, none⟩) (by show w.heap.size ≤ w.heap.size + 1 + 1 + 1; omega) _).trans (belowK_b (w := w) (Nat.le_refl _) _ D _ _ (by omega) hK1 rfl rfl)⟩
  case stop =>
    rintro D k W hD hk ⟨⟨hB, hr⟩, hyes⟩ hK
    have HV : Hid (r = true) := Lib.hid (by rw [← HR.out]; exact Ne.ap_yes (k := k) (by omega) hyes)
    gi_wp2
    refine ⟨by simp, .inl ⟨_, _, rfl, run_takeDeferred hK, ?_⟩⟩
    have bRX : Blk (W.putObj D (.deferred none)) (w.heap.size + 1 + 1 + 1) 4 #[.bool true] := (World.putObj_heap_other (by omega)).trans hr
    have hcX := bRX.cell 0
    simp only [List.getElem?_toArray, List.getElem?_cons_zero] at hcX
    exact ⟨.bool true, by simp [results, Try.results50, go_sem, hcX], by rw [HV.out], hB.trans (belowK_b (w := w) (Nat.le_refl _) _ D _ _ (by omega) hK rfl rfl)⟩
end Go.Proofs.Ytlikmlhlfbdchaa
