import Derived.Test.YticjhkfidgkecaaGreatDoorB4
import Derived.Maps.AppendAt
import Derived.RegionTactic
namespace Go.Proofs.YticjhkfidgkecaaGreatDoor
open Go.RowKit Pl

def RecC (n : Nat) : Prop := ∀ (rb : Nat) (s : List UInt8) (f : Bool) (w : World), s.length < n → s.length ≤ 1000 → St w rb s f → Env w → 8 ≤ rb →
  Calls Tryz.prog 70 #[rp rb] w fun e w' => ∃ h A k c s' f', e = .returned (bv h A k c) ∧ St w' rb s' f' ∧ s'.length ≤ s.length ∧ Fr rb w w' ∧ RRel (fun b => w.heap.size ≤ b ∧ Cl w' b) (pRec n s) f h A k s' f' w'
def letV : List UInt8 → Int
  | [] => 0
  | c :: _ => c.toNat
theorem letter_any (rb : Nat) (s : List UInt8) (f : Bool) (w : World) (h : St w rb s f) :
    Calls Tryz.prog 111 #[rp rb] w fun e w' => e = .returned (.int .u8 (letV s)) ∧ St w' rb s.tail f ∧ Fr rb w w' := by
  cases s with
  | nil => exact (letter_nil rb f w h).mono fun _ _ ⟨a, b⟩ => ⟨a, b ▸ h, b ▸ Fr.refl _ _⟩
  | cons c s => exact letter_cons rb c s f w h
def axI : List UInt8 → Int
  | [] => -1
  | c :: _ => (pAx c).getD (-1)
theorem index_ax (s : List UInt8) : Lib.indexByte (⟨#[120, 121, 122]⟩ : ByteArray).data.toList (letV s).toNat.toUInt8 = axI s := by
  cases s with
  | nil => decide
  | cons c r =>
    have h : (letV (c :: r)).toNat.toUInt8 = c := by simp [letV]
    rw [h]
    unfold axI pAx
    dsimp only
    by_cases h1 : c = 120
    · rw [if_pos h1, h1]; rfl
    · by_cases h2 : c = 121
      · rw [if_neg h1, if_pos h2, h2]; rfl
      · by_cases h3 : c = 122
        · rw [if_neg h1, if_neg h2, if_pos h3, h3]; rfl
        · rw [if_neg h1, if_neg h2, if_neg h3]
          have e1 : ((120 : UInt8) == c) = false := by simpa using Ne.symm h1
          have e2 : ((121 : UInt8) == c) = false := by simpa using Ne.symm h2
          have e3 : ((122 : UInt8) == c) = false := by simpa using Ne.symm h3
          simp [Lib.indexByte, e1, e2, e3]
theorem axI_cons (c : UInt8) (r : List UInt8) : axI (c :: r) = (pAx c).getD (-1) := rfl
theorem axI_le (s : List UInt8) : -1 ≤ axI s ∧ axI s ≤ 2 := by
  cases s with
  | nil => decide
  | cons c r =>
    unfold axI pAx
    dsimp only
    by_cases h1 : c = 120
    · rw [if_pos h1]; decide
    · by_cases h2 : c = 121
      · rw [if_neg h1, if_pos h2]; decide
      · by_cases h3 : c = 122
        · rw [if_neg h1, if_neg h2, if_pos h3]; decide
        · rw [if_neg h1, if_neg h2, if_neg h3]; decide
/-- the state behind the axis -/
def axS (s : List UInt8) (f : Bool) : List UInt8 × Bool := if axI s < 0 then ([], true) else (s.tail, f)
theorem axS_len (s : List UInt8) (f : Bool) : (axS s f).1.length ≤ s.length := by
  unfold axS; split <;> simp
theorem Fr.alloc {rb : Nat} {w w' : World} (h : Fr rb w w') (o : Obj) : Fr rb w (w'.alloc o) := h.trans (Fr.of ((Below.refl _ w').alloc (Nat.le_refl _) o))
theorem NRel.len {k i : Nat} {s s' : List UInt8} {f f' : Bool} {a b c : Int} (h : NRel k k s f s' f' a b c) (_ : i = i) : s'.length ≤ s.length := by
  have := h.done
  cases hp : pNums k s with
  | none => rw [hp] at this; rw [this.1]; simp
  | some x =>
    obtain ⟨ns, r⟩ := x
    rw [hp] at this
    obtain ⟨_, _, _, rfl, _⟩ := this
    rw [(pNums_some hp).1, List.length_append]; omega
/-- the blocks of the parts that were read: made behind the block's own cells, and not the row's -/
def PV (n1 : Nat) (v : Value) (w : World) (b : Nat) : Prop := n1 < b ∧ v.ownBlock ≠ some b ∧ Cl w b
theorem own_slice {w : World} {B e q : Nat} {v : Value} {k : Nat} {xs : List Value} (h : w.ownsRow B e q v k xs) (hk : 0 < k) : ∃ g c, v = .slice (some ⟨g, 0, none⟩) k c ∧ B ≤ g ∧ g < w.heap.size ∧ Cl w g ∧ ∀ i u, xs[i]? = some u → w.cell? ⟨g, i, none⟩ = some u := by
  rcases h.2 with ⟨rfl, h0⟩ | ⟨g, cap, cur, rfl, hb, hg, _⟩
  · omega
  · refine ⟨g, cap, rfl, hb, (Array.getElem?_eq_some_iff.1 hg).1, ⟨_, _, hg⟩, fun i u hu => ?_⟩
    have := h.cells (g := g) rfl i u hu
    rwa [show (⟨g, 0, none⟩ : Addr).add i = ⟨g, i, none⟩ from by cases i <;> simp [Addr.add]] at this
theorem own_fr {w w' : World} {B e q rb : Nat} {v : Value} {k : Nat} {xs : List Value} (h : w.ownsRow B e q v k xs) (hf : Fr rb w w') (hr : rb < B) : w'.ownsRow B e q v k xs :=
  h.kept (row := some rb) ⟨hf.os, hf.tape, hf.output, hf.size, fun k hk hn => hf.block k hk (fun e => hn (by rw [e]))⟩ (.inr fun e => by have := (h.lt _ e).1; omega)
/-- what holds behind a round's append and store -/
theorem fin_round {w w2 w3 : World} {rb n1 n j m : Nat} {rd : List UInt8 → Option (Tree × List UInt8)} {mm s5 s2 : List UInt8} {f5 f2 : Bool} {es : List En} {v v' : Value} {o : Obj} {cs cs0 : Array Value} {xs : List Value}
    (hP : PRel (PV n1 v w2) rd n j mm s5 f5 s2 f2 es w2) (hS : St w2 rb s2 f2) (hF : Fr rb w w2) (hlt : rb < w.heap.size) (h01 : w.heap.size < n1) (hB0 : Blk w2 w.heap.size 25 cs0) (hB1 : Blk w2 n1 25 cs) (hv : ∀ k, v.ownBlock = some k → n1 + 1 ≤ k)
    (hg : (w2.alloc o).grownBy w3 v.ownBlock) (hv' : v'.ownBlock = v.ownBlock ∨ v'.ownBlock = some (w2.alloc o).heap.size) (hown : w3.ownsRow (n1 + 1) 25 7 v' m xs) :
    PRel (PV n1 v' (w3.setCell ⟨n1, 6, none⟩ v')) rd n j mm s5 f5 s2 f2 es (w3.setCell ⟨n1, 6, none⟩ v') ∧ St (w3.setCell ⟨n1, 6, none⟩ v') rb s2 f2 ∧ Fr rb w (w3.setCell ⟨n1, 6, none⟩ v') ∧ Blk (w3.setCell ⟨n1, 6, none⟩ v') w.heap.size 25 cs0 ∧ Blk (w3.setCell ⟨n1, 6, none⟩ v') n1 25 (cs.setIfInBounds 6 v') ∧ (w3.setCell ⟨n1, 6, none⟩ v').ownsRow (n1 + 1) 25 7 v' m xs ∧
    w3.cell? ⟨n1, 6, none⟩ = w2.cell? ⟨n1, 6, none⟩ ∧ w3.frozen? ⟨n1, 6, none⟩ = w2.frozen? ⟨n1, 6, none⟩ := by
  have hsz : (w2.alloc o).heap.size = w2.heap.size + 1 := Array.size_push _
  have key : ∀ k, k < w2.heap.size → v.ownBlock ≠ some k → w3.heap[k]? = w2.heap[k]? := fun k hk hn => (hg.block k (by omega) (fun e => hn e.symm)).trans (Below.heap_alloc w2 o k hk)
  have low : ∀ k, k ≤ n1 → k < w2.heap.size → w3.heap[k]? = w2.heap[k]? := fun k hk hl => key k hl (fun e => by have := hv k e; omega)
  have hl1 := hB1.lt
  have hset : ∀ k, k ≠ n1 → (w3.setCell ⟨n1, 6, none⟩ v').heap[k]? = w3.heap[k]? := fun k hk => Below.heap_setCell w3 ⟨n1, 6, none⟩ v' k hk
  have hB1' : Blk w3 n1 25 cs := (low n1 (Nat.le_refl _) hl1).trans hB1
  refine ⟨hP.map fun b hb hl => ⟨⟨hb.1, ?_, hb.2.2.of ((hset b (by have := hb.1; omega)).trans (key b hl hb.2.1))⟩, (hset b (by have := hb.1; omega)).trans (key b hl hb.2.1)⟩, ?_, ?_, ?_, hB1'.set v', ?_, World.cell?_of_block (low n1 (Nat.le_refl _) hl1), World.frozen?_of_block (low n1 (Nat.le_refl _) hl1)⟩
  · rcases hv' with e | e
    · rw [e]; exact hb.2.1
    · rw [e, hsz]; intro e; injection e with e; omega
  · have hrl : rb < w2.heap.size := Nat.lt_of_lt_of_le hlt hF.size
    exact ((hset rb (by omega)).trans (low rb (by omega) hrl)).trans hS
  · refine ⟨hg.os.trans hF.os, hg.tape.trans hF.tape, hg.output.trans hF.output, ?_, fun k hk hr => ?_⟩
    · have := hg.size; have := hF.size
      rw [show (w3.setCell ⟨n1, 6, none⟩ v').heap.size = w3.heap.size from by simp [World.setCell]]
      omega
    · have := hF.size
      exact ((hset k (by omega)).trans (low k (by omega) (by omega))).trans (hF.block k hk hr)
  · exact ((hset _ (by omega)).trans (low _ (by omega) hB0.lt)).trans hB0
  · refine hown.kept (row := some n1) ⟨rfl, rfl, rfl, by simp [World.setCell], fun k _ hn => hset k (fun e => hn (by rw [e]))⟩ (.inr fun e => by have := (hown.lt _ e).1; omega)
/-- what holds at the end -/
theorem work_done {n : Nat} {op : Int} (h2 : 2 ≤ op) (h6 : op ≤ 6) {s s3 s5 s6 : List UInt8} {f f3 f5 f6 : Bool} {a b c : Int} {es : List En} {v : Value} {n1 n0 : Nat} {w w' : World}
    (hX : (s3, f3) = axS s f) (hN : NRel (nNum op) (nNum op) s3 f3 s5 f5 a b c) (hP : PRel (PV n1 v w) (pRec n) (nPart op) (nPart op) [32, 40] s5 f5 s6 f6 es w) (hown : w.ownsRow (n1 + 1) 25 7 v (nPart op) (row es)) (h01 : n0 < n1)
    (hw : ∀ k, n1 < k → k < w.heap.size → w'.heap[k]? = w.heap[k]?) :
    ∃ A k cc, v = .slice A k cc ∧ RRel (fun b => n0 ≤ b ∧ Cl w' b) (pWork (pRec n) op s) f ⟨op, axI s, 0, a, b, c⟩ A k (needS [41] s6 f6).1 (needS [41] s6 f6).2 w' := by
  have hpos : 0 < nPart op := by unfold nPart; rw [if_neg (by omega)]; split <;> omega
  obtain ⟨g, cc, rfl, hg1, hg2, hg3, hcell⟩ := own_slice hown hpos
  refine ⟨_, _, cc, rfl, ?_⟩
  have hN' := hN.done
  obtain ⟨hlen, hP'⟩ := hP.done
  have bad3 : s3 = [] → f3 = true → (needS [41] s6 f6) = ([], true) := by
    rintro rfl rfl
    have e5 : s5 = [] ∧ f5 = true := by
      cases hq : pNums (nNum op) ([] : List UInt8) with
      | none => rw [hq] at hN'; exact hN'
      | some x =>
        obtain ⟨ns, r⟩ := x
        rw [hq] at hN'
        have := (pNums_some hq).1
        have hr : r = [] := (List.append_eq_nil_iff.1 this.symm).2
        exact ⟨hN'.2.2.2.1.trans hr, hN'.2.2.2.2⟩
    obtain ⟨rfl, rfl⟩ := e5
    have e6 : s6 = [] ∧ f6 = true := by
      have hnil : pParts (pRec n) (nPart op) [32, 40] ([] : List UInt8) = none := by
        obtain ⟨q, hq⟩ : ∃ q, nPart op = q + 1 := ⟨nPart op - 1, by omega⟩
        rw [hq, pParts]; rfl
      rw [hnil] at hP'; exact hP'
    obtain ⟨rfl, rfl⟩ := e6
    rfl
  unfold RRel pWork
  unfold axS at hX
  cases s with
  | nil =>
    rw [if_pos (by decide)] at hX
    cases hX
    have := bad3 rfl rfl
    rw [this]; exact ⟨rfl, rfl⟩
  | cons ch r =>
    dsimp only
    rw [axI_cons] at hX ⊢
    cases hax : pAx ch with
    | none =>
      rw [hax] at hX
      rw [if_pos (by decide)] at hX
      cases hX
      have := bad3 rfl rfl
      dsimp only
      rw [this]; exact ⟨rfl, rfl⟩
    | some ax =>
      rw [hax] at hX
      have hax2 := (pAx_some hax).1
      rw [if_neg (by dsimp only [Option.getD]; omega)] at hX
      simp only [List.tail_cons, Prod.mk.injEq] at hX
      obtain ⟨rfl, rfl⟩ := hX
      dsimp only [Option.getD]
      cases hq : pNums (nNum op) s3 with
      | none =>
        rw [hq] at hN'
        obtain ⟨rfl, rfl⟩ := hN'
        have hnil : pParts (pRec n) (nPart op) [32, 40] ([] : List UInt8) = none := by
          obtain ⟨q, hq⟩ : ∃ q, nPart op = q + 1 := ⟨nPart op - 1, by omega⟩
          rw [hq, pParts]; rfl
        rw [hnil] at hP'
        obtain ⟨rfl, rfl⟩ := hP'
        exact ⟨rfl, rfl⟩
      | some x =>
        obtain ⟨ns, r1⟩ := x
        rw [hq] at hN'
        obtain ⟨ha, hb, hc, rfl, rfl⟩ := hN'
        dsimp only
        cases hpp : pParts (pRec n) (nPart op) [32, 40] s5 with
        | none =>
          rw [hpp] at hP'
          obtain ⟨rfl, rfl⟩ := hP'
          exact ⟨rfl, rfl⟩
        | some x =>
          obtain ⟨ts, r2⟩ := x
          rw [hpp] at hP'
          obtain ⟨rfl, rfl, hen⟩ := hP'
          dsimp only
          unfold needS
          cases hs : strip [41] s6 with
          | none => exact ⟨rfl, rfl⟩
          | some r3 =>
            refine ⟨rfl, rfl, ?_, ?_, ?_⟩
            · dsimp only [Tree.hd]; unfold mk; rw [ha, hb, hc]
            · dsimp only [Tree.ps]; rw [← hen.len, hlen]
            · dsimp only [Tree.ps]
              have hm : ∀ b, PV n1 (.slice (some ⟨g, 0, none⟩) (nPart op) cc) w b → b < w.heap.size → (n0 ≤ b ∧ Cl w' b) ∧ w'.heap[b]? = w.heap[b]? := fun b hb hl => ⟨⟨by have := hb.1; omega, hb.2.2.of (hw b hb.1 hl)⟩, hw b hb.1 hl⟩
              refine EnOk.rd (p := fun b => n0 ≤ b ∧ Cl w' b) ⟨by omega, hg3.of (hw g (by omega) hg2)⟩ (hen.map hm) fun i u hu => ?_
              rw [Nat.zero_add]
              exact (World.cell?_of_block (a := ⟨g, i, none⟩) (hw g (by omega) hg2)).trans (hcell i u hu)
theorem step_append {P : Program} {w : World} {ops : Array Oper} {o : Oper} {a : Act} {K : Act → World → Prop} {Q : Exit → Act → World → Prop} {E : Prop} (hg : o.guard = none) (s x : Operand) (t : TypeId)
    (ho : o.op = .call { callee := .builtin .append, args := #[s, x], argTypes := #[t, t] })
    (base : Nat) (e : TypeId) (i : TypeInfo) (z : Value) (size bytes : Nat) (ht : P.underlying t = some (.slice e)) (hi : P.info? e = some i) (hz : i.zero = some z)
    (hsize : i.size = size) (hby : i.bytes = bytes) (hzs : z.cells.size = size) (hsz : 0 < size)
    (v : Value) (k : Nat) (xs : List Value) (hs : a.eval s = v) (hown : w.ownsRow base e size v k xs)
    (ad : Addr) (m c : Nat) (news : List Value) (hx : a.eval x = .slice (some ad) m c) (hl : news.length = m * size) (hnews : ∀ j u, news[j]? = some u → w.cell? (ad.add j) = some u) (h1 : ∀ u ∈ news, u.oneCell' = true)
    (h63 : k + m ≤ maxLen) (hbytes : (k + m) * bytes ≤ 140737488355328) (hbase : base ≤ w.heap.size)
    (h : ∀ v' w', w'.ownsRow base e size v' (k + m) (xs ++ news) → w.grownBy w' v.ownBlock → (v'.ownBlock = v.ownBlock ∨ v'.ownBlock = some w.heap.size) → K (a.put o.dst v') w') :
    if Region.wanted o (yielded ops a.tmps) = true then o.wp P a w K Q else E := by
  have hw : Region.wanted o (yielded ops a.tmps) = true := by simp [Region.wanted, hg]
  rw [if_pos hw]
  obtain ⟨v', w', hr, h2, h3, _, h5⟩ := run_append_own_at (P := P) w base t o.type e i z size bytes ht hi hz hsize hby hzs hsz v k xs hown ad m c news hl hnews h1 h63 hbytes hbase
  have hrun : (execOp a.eval o).run P w = .ok (.value v') w' := by
    unfold execOp
    simp only [ho, resolve, invoke, builtin, Sem.run_bind, Sem.run_pure, Result.andThen_ok, List.map_toArray, List.map_cons, List.map_nil, hs, hx, hr]
  unfold Oper.wp
  rw [hrun]
  exact h v' w' h2 h3 h5
/-- seven cells of a block written one after the other -/
def put7 (w : World) (g : Nat) (v0 v1 v2 v3 v4 v5 v6 : Value) : World :=
  (((((((w.setCell ⟨g, 0, none⟩ v0).setCell ⟨g, 1, none⟩ v1).setCell ⟨g, 2, none⟩ v2).setCell ⟨g, 3, none⟩ v3).setCell ⟨g, 4, none⟩ v4).setCell ⟨g, 5, none⟩ v5).setCell ⟨g, 6, none⟩ v6)
theorem put7_heap (w : World) (g : Nat) (v0 v1 v2 v3 v4 v5 v6 : Value) (k : Nat) (hk : k ≠ g) : (put7 w g v0 v1 v2 v3 v4 v5 v6).heap[k]? = w.heap[k]? := by
  have h : ∀ (u : World) (i : Nat) (v : Value), (u.setCell ⟨g, i, none⟩ v).heap[k]? = u.heap[k]? := fun u i v => Below.heap_setCell u ⟨g, i, none⟩ v k hk
  unfold put7
  rw [h, h, h, h, h, h, h]
theorem put7_blk {w : World} {g : Nat} {t : TypeId} {u0 u1 u2 u3 u4 u5 u6 : Value} (v0 v1 v2 v3 v4 v5 v6 : Value) (h : Blk w g t #[u0, u1, u2, u3, u4, u5, u6]) : Blk (put7 w g v0 v1 v2 v3 v4 v5 v6) g t #[v0, v1, v2, v3, v4, v5, v6] := by
  have h0 : Blk _ g t #[v0, u1, u2, u3, u4, u5, u6] := h.set (i := 0) v0
  have h1 : Blk _ g t #[v0, v1, u2, u3, u4, u5, u6] := h0.set (i := 1) v1
  have h2 : Blk _ g t #[v0, v1, v2, u3, u4, u5, u6] := h1.set (i := 2) v2
  have h3 : Blk _ g t #[v0, v1, v2, v3, u4, u5, u6] := h2.set (i := 3) v3
  have h4 : Blk _ g t #[v0, v1, v2, v3, v4, u5, u6] := h3.set (i := 4) v4
  have h5 : Blk _ g t #[v0, v1, v2, v3, v4, v5, u6] := h4.set (i := 5) v5
  exact h5.set (i := 6) v6
theorem put7_fr {w0 w : World} {rb g : Nat} (hf : Fr rb w0 w) (hg : w0.heap.size ≤ g) (v0 v1 v2 v3 v4 v5 v6 : Value) : Fr rb w0 (put7 w g v0 v1 v2 v3 v4 v5 v6) :=
  ((((((hf.setNew hg 0 v0).setNew hg 1 v1).setNew hg 2 v2).setNew hg 3 v3).setNew hg 4 v4).setNew hg 5 v5).setNew hg 6 v6
theorem nPart_le (op : Int) : nPart op ≤ 2 := by
  unfold nPart; split
  · omega
  · split <;> omega
theorem new7 (W : World) (e : En) : ∀ (j : Nat) (u : Value), (enCells e)[j]? = some u → (W.alloc (.cells #[.int .i64 e.h.op, .int .i64 e.h.ax, .int .u8 e.h.col, .int .i64 e.h.n0, .int .i64 e.h.n1, .int .i64 e.h.n2, .slice e.A e.n e.c] 25)).cell? ((⟨W.heap.size, 0, none⟩ : Addr).add j) = some u := by
  intro j u hj
  have := (Blk.new W 25 #[.int .i64 e.h.op, .int .i64 e.h.ax, .int .u8 e.h.col, .int .i64 e.h.n0, .int .i64 e.h.n1, .int .i64 e.h.n2, .slice e.A e.n e.c]).cell j
  rw [show (⟨W.heap.size, 0, none⟩ : Addr).add j = ⟨W.heap.size, j, none⟩ from by cases j <;> simp [Addr.add], this]
  simpa [enCells] using hj
theorem one7 (e : En) : ∀ u ∈ enCells e, u.oneCell' = true := by
  intro u hu
  simp only [enCells, List.mem_cons, List.not_mem_nil, or_false] at hu
  rcases hu with rfl | rfl | rfl | rfl | rfl | rfl | rfl <;> rfl
theorem info25' : (Tryz.prog.info? 25).map (fun i => (i.zero, i.size, i.bytes)) = some (some (.agg #[.int .i64 0, .int .i64 0, .int .u8 0, .int .i64 0, .int .i64 0, .int .i64 0, .slice none 0 0]), 7, 72) := by kernel_rfl
set_option maxRecDepth 100000 in
set_option maxHeartbeats 4000000 in
theorem worked_any (n : Nat) (ih : RecC n) (rb : Nat) (op : Int) (h2 : 2 ≤ op) (h6 : op ≤ 6) (s : List UInt8) (f : Bool) (w : World) (hn : s.length < n) (hl : s.length ≤ 1000) (h : St w rb s f) (hE : Env w) (hrb : 8 ≤ rb) :
    Calls Tryz.prog 110 #[rp rb, .int .i64 op] w fun e w' => ∃ hd A k c s' f', e = .returned (bv hd A k c) ∧ St w' rb s' f' ∧ s'.length ≤ s.length ∧ Fr rb w w' ∧ RRel (fun b => w.heap.size ≤ b ∧ Cl w' b) (pWork (pRec n) op s) f hd A k s' f' w' := by
  have HI := Lib.hid ih
  have HS := Lib.hid h
  have HE := Lib.hid hE
  have hlt : rb < w.heap.size := Blk.lt h
  have B0 := Blk.new w 25 #[.int .i64 0, .int .i64 0, .int .u8 0, .int .i64 0, .int .i64 0, .int .i64 0, .slice none 0 0]
  have hb0 := (Below.refl w.heap.size w).alloc (Nat.le_refl _) (.cells #[.int .i64 0, .int .i64 0, .int .u8 0, .int .i64 0, .int .i64 0, .int .i64 0, .slice none 0 0] 25)
  have HSW := h.below hb0
  have HEW := Lib.hid (hE.below hb0)
  have HFW : Hid (Fr rb w _) := Lib.hid (Fr.of hb0)
  have HB0 := Lib.hid B0
  clear h hE B0 hb0 ih
  have hn0 : w.heap.size ≠ rb := by omega
  go_enter Tryz.func110, Tryz.ntmps110
  go_wp2_with fail
  generalize hW : w.alloc (.cells #[.int .i64 0, .int .i64 0, .int .u8 0, .int .i64 0, .int .i64 0, .int .i64 0, .slice none 0 0] 25) = W at *
  clear hW
  refine (letter_any rb s f W HSW).mono ?_
  rintro e w1 ⟨rfl, hs1, hf1⟩
  have HE1 := Lib.hid (HEW.out.fr hf1 hrb)
  have HF1 := Lib.hid (HFW.out.trans hf1)
  have HB1 := Lib.hid (HB0.out.fr hf1 hn0)
  have HS1 := Lib.hid hs1
  clear hs1 hf1 HSW HEW HFW HB0
  have C1 := Tryz.strings_IndexByte ⟨#[120, 121, 122]⟩ (letV s) w1
  rw [index_ax] at C1
  go_wp2_with fail
  refine C1.mono ?_
  rintro e w2 ⟨rfl, rfl⟩
  clear C1
  by_cases hx : axI s < 0
  · have hxs : axS s f = ([], true) := by unfold axS; rw [if_pos hx]
    have HC := Lib.hid (fail_any rb _ f w2 HS1.out)
    go_wp2_with fail
    refine HC.out.mono ?_
    rintro e w3 ⟨rfl, hs3, hf3⟩
    have HF3 := Lib.hid (HF1.out.trans hf3)
    have HE3 := Lib.hid (HE1.out.fr hf3 hrb)
    have HB3 := Lib.hid (HB1.out.fr hf3 hn0)
    obtain ⟨s3, f3, HX⟩ : ∃ s3 f3, Hid ((s3, f3) = axS s f) := ⟨_, _, Lib.hid rfl⟩
    have HS3 : Hid (St w3 rb s3 f3) := Lib.hid (by have := HX.out.trans hxs; cases this; exact hs3)
    have hl3 : s3.length ≤ s.length := by have := axS_len s f; rw [← HX.out] at this; exact this
    clear hs3 hf3 HF1 HE1 HB1 HC HS1 hxs
    go_wp2_with fail
    refine (kindOf_any op (by omega) h6 _ HE3.out.own).mono ?_
    rintro e w4 ⟨rfl, hb4⟩
    have HF4 : Hid (Fr rb w w4) := Lib.hid (HF3.out.trans (Fr.of hb4))
    have HE4 := Lib.hid (HE3.out.below hb4)
    have HB4 := Lib.hid (HB3.out.fr (Fr.of hb4) hn0)
    have HS4 := Lib.hid (HS3.out.below hb4)
    clear hb4 HF3 HE3 HB3 HS3
    have k1 := fun w => fldK1 op w
    go_wp2_with fail
    refine (numbers_any rb (nNum op) s3 f3 w4 HS4.out HE4.out hrb (by omega) (nNum_le op)).mono ?_
    rintro e w5 ⟨a, b, c, s5, f5, rfl, hN, hs5, hf5⟩
    have hl5 : s5.length ≤ s3.length := NRel.len (i := 0) hN rfl
    have HN := Lib.hid hN
    have HF5 := Lib.hid (HF4.out.trans hf5)
    have HE5 := Lib.hid (HE4.out.fr hf5 hrb)
    have HB5 := Lib.hid (HB4.out.fr hf5 hn0)
    have HS5 := Lib.hid hs5
    clear hN hf5 hs5 HF4 HE4 HB4 HS4 k1
    go_wp2_with fail
    have B6 := Blk.new w5 25 #[.int .i64 op, .int .i64 (axI s), .int .u8 0, .int .i64 a, .int .i64 b, .int .i64 c, .slice none 0 0]
    have hb6 := (Below.refl w5.heap.size w5).alloc (Nat.le_refl _) (.cells #[.int .i64 op, .int .i64 (axI s), .int .u8 0, .int .i64 a, .int .i64 b, .int .i64 c, .slice none 0 0] 25)
    have HE6 := HE5.out.below hb6
    generalize hW6 : w5.alloc (.cells #[.int .i64 op, .int .i64 (axI s), .int .u8 0, .int .i64 a, .int .i64 b, .int .i64 c, .slice none 0 0] 25) = W6 at *
    clear hW6
    refine (kindOf_any op (by omega) h6 _ HE6.own).mono ?_
    rintro e w7 ⟨rfl, hb7⟩
    obtain ⟨i0, hi, hz0, hz1, hz2⟩ := info_parts info25'
    obtain ⟨n0, Hn0⟩ : ∃ n0, Hid (n0 = w.heap.size) := ⟨_, Lib.hid rfl⟩
    obtain ⟨n1, hn1⟩ : ∃ n1, n1 = w5.heap.size := ⟨_, rfl⟩
    have h01 : w.heap.size < n1 := by have := HB5.out.lt; omega
    have hr1 : n1 ≠ rb := by omega
    have HF7 : Hid (Fr rb w w7) := Lib.hid (HF5.out.trans ((Fr.of hb6).trans (Fr.of hb7)))
    have HE7 := Lib.hid (HE6.below hb7)
    have HB7 := Lib.hid (HB5.out.fr ((Fr.of hb6).trans (Fr.of hb7)) hn0)
    have HS7 := Lib.hid ((HS5.out.below hb6).below hb7)
    have B7 := B6.below hb7 B6.lt
    rw [← hn1] at B7
    have HC7 := Lib.hid B7
    have k2 := fun w => fldK2 op w
    rw [← hn1]
    have h01' := h01
    have hp2 := nPart_le op
    rw [← Hn0.out] at h01 hn0 HB7
    rw [← Hn0.out]
    clear hb7 hb6 B6 B7 HE6 HF5 HE5 HB5 HS5 W6
    have Hn1 := Lib.hid hn1
    clear hn1
    go_wp2_with fail
    obtain ⟨wo, rfl⟩ : ∃ wo, wo = w7 := ⟨_, rfl⟩
    go_loopw [7, 26] (fun m i wr => ∃ (j : Nat) (v : Value) (es : List En) (s' : List UInt8) (f' : Bool), j ≤ nPart op ∧ i = .int .i64 j ∧ m = str (mkAt [32, 40] j) ∧ PRel (PV n1 v wr) (pRec n) (nPart op) j [32, 40] s5 f5 s' f' es wr ∧ St wr rb s' f' ∧ s'.length ≤ s3.length ∧ Env wr ∧ Fr rb w wr ∧ Blk wr n0 25 #[.int .i64 0, .int .i64 0, .int .u8 0, .int .i64 0, .int .i64 0, .int .i64 0, .slice none 0 0] ∧ Blk wr n1 25 #[.int .i64 op, .int .i64 (axI s), .int .u8 0, .int .i64 a, .int .i64 b, .int .i64 c, v] ∧ wr.ownsRow (n1 + 1) 25 7 v j (row es)) (fun m i _ => nPart op - (intOf i).toNat)
    case atStart => exact ⟨0, _, [], s5, f5, by omega, rfl, rfl, PRel.start _ _ _ _ _ _ _, HS7.out, hl5, HE7.out, HF7.out, HB7.out, HC7.out, World.ownsRow_nil _ _ _ _⟩
    case round =>
      clear HS7 HE7 HF7 HB7 HC7
      obtain ⟨j, v, es, s', f', hj, rfl, rfl, hP, hSt, hls, hEn, hFr, hB0, hB1, hown⟩ := hrel
      have HP := Lib.hid hP
      have HEn := Lib.hid hEn
      have HFr := Lib.hid hFr
      have HB0 := Lib.hid hB0
      have HB1 := Lib.hid hB1
      have HO := Lib.hid hown
      have HSt := Lib.hid hSt
      clear hP hEn hFr hB0 hB1 hown hSt
      by_cases hlt2 : j < nPart op
      · go_wp2_with fail
        refine (need_any rb s' (mkAt [32, 40] j) f' wr HSt.out).mono ?_
        rintro e w1 ⟨rfl, hs1, hf1⟩
        obtain ⟨s1, f1, HN1⟩ : ∃ s1 f1, Hid ((s1, f1) = needS (mkAt [32, 40] j) s' f') := ⟨_, _, Lib.hid rfl⟩
        rw [← HN1.out] at hs1
        have hl1 : s1.length ≤ s3.length := by have := needS_len (mkAt [32, 40] j) s' f'; rw [← HN1.out] at this; exact Nat.le_trans this hls
        have HS1 := Lib.hid hs1
        have Hf1 := Lib.hid hf1
        clear hs1 hf1 hls
        go_wp2_with fail
        refine Code.wp_mono (Q := fun e a' w' => e = .normal ∧ ∃ hd A l c' s2 f2 v' y31 y32 y33 y34 y35 y36 y37, a' = { tmps := #[rp rb, .int .i64 op, undef, undef, .pointer (some ⟨n0, 0, none⟩), .int .i64 (axI s), .pointer (some ⟨n1, 0, none⟩), str (mkAt [32, 40] j), rp rb, .int .u8 (letV s), .int .i64 (axI s), .int .i64 (axI s), .bool true, rp rb, .tuple #[], .int .i64 op, .int .i64 (axI s), rp rb, .int .i64 op, kindV op, .int .i64 (nNum op), .agg #[.int .i64 a, .int .i64 b, .int .i64 c], .agg #[.int .i64 op, .int .i64 (axI s), .int .u8 0, .int .i64 a, .int .i64 b, .int .i64 c, .slice none 0 0], .int .i64 op, kindV op, .int .i64 (nPart op), .int .i64 j, .bool true, rp rb, str (mkAt [32, 40] j), .tuple #[], y31, y32, y33, y34, y35, y36, y37, u38, undef, undef, undef], defers := [] } ∧ PRel (PV n1 v' w') (pRec n) (nPart op) (j + 1) [32, 40] s5 f5 s2 f2 (es ++ [⟨hd, A, l, c'⟩]) w' ∧ St w' rb s2 f2 ∧ s2.length ≤ s3.length ∧ Fr rb w w' ∧ Blk w' w.heap.size 25 #[.int .i64 0, .int .i64 0, .int .u8 0, .int .i64 0, .int .i64 0, .int .i64 0, .slice none 0 0] ∧ Blk w' n1 25 #[.int .i64 op, .int .i64 (axI s), .int .u8 0, .int .i64 a, .int .i64 b, .int .i64 c, v'] ∧ w'.ownsRow (n1 + 1) 25 7 v' (j + 1) (row (es ++ [⟨hd, A, l, c'⟩]))) ?goon ?region
        case region =>
          refine wp_region_any (by kernel_rfl) ?_
          change wpAny _ _ _ _ _ _ _ (World.drew _)
          have hdr : Below w1.heap.size w1 w1.drew := (Below.refl _ w1).drew
          have HSd := Lib.hid (HS1.out.below hdr)
          have hfd : Fr rb wr w1.drew := Hf1.out.trans (Fr.of hdr)
          have HFd := Lib.hid (HFr.out.trans hfd)
          have HOd := Lib.hid (own_fr HO.out hfd (by omega))
          have HBd := Lib.hid (HB1.out.fr hfd hr1)
          have HB0d := Lib.hid (HB0.out.fr hfd hn0)
          have HPd : Hid (PRel (PV n1 v w1.drew) (pRec n) (nPart op) j [32, 40] s5 f5 s' f' es w1.drew) := Lib.hid (HP.out.map fun b hb hlb => have e := hfd.block b hlb (by have := hb.1; omega); ⟨⟨hb.1, hb.2.1, hb.2.2.of e⟩, e⟩)
          have HC := Lib.hid (HI.out rb s1 f1 w1.drew (by omega) (by omega) HSd.out (HE.out.fr HFd.out hrb) hrb)
          clear hdr hfd HSd
          generalize w1.drew = wd at *
          clear HS1 Hf1 HFr HO HB1 HB0 HP HEn HSt w1
          have c6 : wd.cell? ⟨n1, 6, none⟩ = some v := (HBd.out.cell 6).trans rfl
          refine wpAny_take (i := 0) (v := ?_) rfl (by kernel_rfl) (by decide +kernel) (by decide +kernel) (fun _ _ _ h => by cases h.1) (Or.inl ⟨by rfl, ?_⟩) ?_
          rotate_left
          · intro w; first | (go_simp; done) | (go_simp; with_reducible rfl)
          refine wpAny_take (i := 2) (v := ?_) rfl (by kernel_rfl) (by decide +kernel) (by decide +kernel) (fun _ _ _ h => by cases h.1) (Or.inl ⟨by rfl, ?_⟩) ?_
          rotate_left
          · intro w; first | (go_simp; done) | (go_simp; with_reducible rfl)
          refine wpAny_ready (rs := [1, 3]) (by decide +kernel) (by simp) ?_
          refine AllReady.cons rfl (fun K hK => ?_) ?_
          · go_simp
            refine hK _ _ ?_
            clear hK K
            refine wpAny_ready (rs := [3]) (by decide +kernel) (by simp) ?_
            refine AllReady.cons rfl (fun K hK => ?_) AllReady.nil
            go_simp
            go_at_call 70
            refine HC.out.mono ?_
            rintro e w2 ⟨hd, A, l, c', s2, f2, rfl, hs2, hl2, hf2, hR⟩
            unfold bv hdc
            dsimp only
            have HS2 := Lib.hid hs2
            have HF2 := Lib.hid (HFd.out.trans hf2)
            have HO2 := Lib.hid (own_fr HOd.out hf2 (by omega))
            have HB2 := Lib.hid (HBd.out.fr hf2 hr1)
            have HB02 := Lib.hid (HB0d.out.fr hf2 hn0)
            have HP2 : Hid (PRel (PV n1 v w2) (pRec n) (nPart op) (j + 1) [32, 40] s5 f5 s2 f2 (es ++ [⟨hd, A, l, c'⟩]) w2) := Lib.hid ((HPd.out.map (q := PV n1 v w2) fun b hb hlb => have e := hf2.block b hlb (by have := hb.1; omega); ⟨⟨hb.1, hb.2.1, hb.2.2.of e⟩, e⟩).step hlt2 (by rw [← HN1.out]; exact hR.to fun b hb _ => ⟨⟨by have := HBd.out.lt; have := hb.1; omega, fun e => by have := (HOd.out.lt b e).2; have := hb.1; omega, hb.2⟩, rfl⟩))
            have hl2' : s2.length ≤ s3.length := Nat.le_trans hl2 hl1
            have c62 : w2.cell? ⟨n1, 6, none⟩ = some v := (HB2.out.cell 6).trans rfl
            have z62 := HB2.out.frozen 6
            have HBA := Lib.hid (HB2.out.alloc (.cells #[.int .i64 hd.op, .int .i64 hd.ax, .int .u8 hd.col, .int .i64 hd.n0, .int .i64 hd.n1, .int .i64 hd.n2, .slice A l c'] 25))
            have c6A : (w2.alloc (.cells #[.int .i64 hd.op, .int .i64 hd.ax, .int .u8 hd.col, .int .i64 hd.n0, .int .i64 hd.n1, .int .i64 hd.n2, .slice A l c'] 25)).cell? ⟨n1, 6, none⟩ = some v := (HBA.out.cell 6).trans rfl
            clear hs2 hf2 hR hl2
            refine hK _ _ ?_
            clear hK K
            refine wpAny_ready (rs := [4]) (by decide +kernel) (by simp) ?_
            refine AllReady.cons rfl (fun K hK => ?_) AllReady.nil
            go_simp
            refine hK _ _ ?_
            clear hK K
            refine wpAny_ready (rs := [5]) (by decide +kernel) (by simp) ?_
            refine AllReady.cons rfl (fun K hK => ?_) AllReady.nil
            refine step_append rfl (.tmp 32) (.tmp 35) 23 rfl (n1 + 1) 25 i0 _ 7 72 Tryz.underlying23 hi hz0 hz1 hz2 rfl (by decide) v j (row es) rfl (HO2.out.alloc _) ⟨w2.heap.size, 0, none⟩ 1 1 (enCells ⟨hd, A, l, c'⟩) rfl rfl (new7 w2 ⟨hd, A, l, c'⟩) (one7 ⟨hd, A, l, c'⟩) (by unfold maxLen; omega) (by omega) (by have := HB2.out.lt; simp; omega) ?_
            intro v' w3 hown' hg hv'
            obtain ⟨g', cc', rfl, -, -, -, -⟩ := own_slice hown' (Nat.succ_pos j)
            obtain ⟨r1, r2, r3, r4, r5, r6, r7, r8⟩ := fin_round HP2.out HS2.out HF2.out hlt h01' (Hn0.out ▸ HB02.out) HB2.out (fun k e => (HO2.out.lt k e).1) hg hv' hown'
            have c63 : w3.cell? ⟨n1, 6, none⟩ = some v := r7.trans c62
            have z63 := r8.trans z62
            have R1 := Lib.hid r1
            have R := Lib.hid (And.intro r2 (And.intro r3 (And.intro r4 (And.intro r5 r6))))
            clear r1 r2 r3 r4 r5 r6 r7 r8 hown' hg hv' c62 z62 c6A c6
            refine hK _ _ ?_
            clear hK K
            refine wpAny_ready (rs := [6]) (by decide +kernel) (by simp) ?_
            refine AllReady.cons rfl (fun K hK => ?_) AllReady.nil
            go_simp
            refine hK _ _ ?_
            clear hK K
            refine wpAny_ready (rs := [7]) (by decide +kernel) (by simp) ?_
            refine AllReady.cons rfl (fun K hK => ?_) AllReady.nil
            go_simp
            refine hK _ _ ?_
            clear hK K
            refine wpAny_done (by decide +kernel) ?_ _
            exact ⟨rfl, hd, A, l, c', s2, f2, _, _, _, _, _, _, _, _, rfl, R1.out, R.out.1, hl2', R.out.2.1, R.out.2.2.1, R.out.2.2.2.1, by rw [row_snoc]; exact R.out.2.2.2.2⟩
          · refine AllReady.cons rfl (fun K hK => ?_) AllReady.nil
            go_simp
            go_at_call 70
            refine HC.out.mono ?_
            rintro e w2 ⟨hd, A, l, c', s2, f2, rfl, hs2, hl2, hf2, hR⟩
            unfold bv hdc
            dsimp only
            have HS2 := Lib.hid hs2
            have HF2 := Lib.hid (HFd.out.trans hf2)
            have HO2 := Lib.hid (own_fr HOd.out hf2 (by omega))
            have HB2 := Lib.hid (HBd.out.fr hf2 hr1)
            have HB02 := Lib.hid (HB0d.out.fr hf2 hn0)
            have HP2 : Hid (PRel (PV n1 v w2) (pRec n) (nPart op) (j + 1) [32, 40] s5 f5 s2 f2 (es ++ [⟨hd, A, l, c'⟩]) w2) := Lib.hid ((HPd.out.map (q := PV n1 v w2) fun b hb hlb => have e := hf2.block b hlb (by have := hb.1; omega); ⟨⟨hb.1, hb.2.1, hb.2.2.of e⟩, e⟩).step hlt2 (by rw [← HN1.out]; exact hR.to fun b hb _ => ⟨⟨by have := HBd.out.lt; have := hb.1; omega, fun e => by have := (HOd.out.lt b e).2; have := hb.1; omega, hb.2⟩, rfl⟩))
            have hl2' : s2.length ≤ s3.length := Nat.le_trans hl2 hl1
            have c62 : w2.cell? ⟨n1, 6, none⟩ = some v := (HB2.out.cell 6).trans rfl
            have z62 := HB2.out.frozen 6
            have HBA := Lib.hid (HB2.out.alloc (.cells #[.int .i64 hd.op, .int .i64 hd.ax, .int .u8 hd.col, .int .i64 hd.n0, .int .i64 hd.n1, .int .i64 hd.n2, .slice A l c'] 25))
            have c6A : (w2.alloc (.cells #[.int .i64 hd.op, .int .i64 hd.ax, .int .u8 hd.col, .int .i64 hd.n0, .int .i64 hd.n1, .int .i64 hd.n2, .slice A l c'] 25)).cell? ⟨n1, 6, none⟩ = some v := (HBA.out.cell 6).trans rfl
            clear hs2 hf2 hR hl2
            refine hK _ _ ?_
            clear hK K
            refine wpAny_ready (rs := [1, 4]) (by decide +kernel) (by simp) ?_
            refine AllReady.cons rfl (fun K hK => ?_) ?_
            · go_simp
              refine hK _ _ ?_
              clear hK K
              refine wpAny_ready (rs := [4]) (by decide +kernel) (by simp) ?_
              refine AllReady.cons rfl (fun K hK => ?_) AllReady.nil
              go_simp
              refine hK _ _ ?_
              clear hK K
              refine wpAny_ready (rs := [5]) (by decide +kernel) (by simp) ?_
              refine AllReady.cons rfl (fun K hK => ?_) AllReady.nil
              refine step_append rfl (.tmp 32) (.tmp 35) 23 rfl (n1 + 1) 25 i0 _ 7 72 Tryz.underlying23 hi hz0 hz1 hz2 rfl (by decide) v j (row es) rfl (HO2.out.alloc _) ⟨w2.heap.size, 0, none⟩ 1 1 (enCells ⟨hd, A, l, c'⟩) rfl rfl (new7 w2 ⟨hd, A, l, c'⟩) (one7 ⟨hd, A, l, c'⟩) (by unfold maxLen; omega) (by omega) (by have := HB2.out.lt; simp; omega) ?_
              intro v' w3 hown' hg hv'
              obtain ⟨g', cc', rfl, -, -, -, -⟩ := own_slice hown' (Nat.succ_pos j)
              obtain ⟨r1, r2, r3, r4, r5, r6, r7, r8⟩ := fin_round HP2.out HS2.out HF2.out hlt h01' (Hn0.out ▸ HB02.out) HB2.out (fun k e => (HO2.out.lt k e).1) hg hv' hown'
              have c63 : w3.cell? ⟨n1, 6, none⟩ = some v := r7.trans c62
              have z63 := r8.trans z62
              have R1 := Lib.hid r1
              have R := Lib.hid (And.intro r2 (And.intro r3 (And.intro r4 (And.intro r5 r6))))
              clear r1 r2 r3 r4 r5 r6 r7 r8 hown' hg hv' c62 z62 c6A c6
              refine hK _ _ ?_
              clear hK K
              refine wpAny_ready (rs := [6]) (by decide +kernel) (by simp) ?_
              refine AllReady.cons rfl (fun K hK => ?_) AllReady.nil
              go_simp
              refine hK _ _ ?_
              clear hK K
              refine wpAny_ready (rs := [7]) (by decide +kernel) (by simp) ?_
              refine AllReady.cons rfl (fun K hK => ?_) AllReady.nil
              go_simp
              refine hK _ _ ?_
              clear hK K
              refine wpAny_done (by decide +kernel) ?_ _
              exact ⟨rfl, hd, A, l, c', s2, f2, _, _, _, _, _, _, _, _, rfl, R1.out, R.out.1, hl2', R.out.2.1, R.out.2.2.1, R.out.2.2.2.1, by rw [row_snoc]; exact R.out.2.2.2.2⟩
            · refine AllReady.cons rfl (fun K hK => ?_) AllReady.nil
              go_simp
              refine hK _ _ ?_
              clear hK K
              refine wpAny_ready (rs := [1]) (by decide +kernel) (by simp) ?_
              refine AllReady.cons rfl (fun K hK => ?_) AllReady.nil
              go_simp
              refine hK _ _ ?_
              clear hK K
              refine wpAny_ready (rs := [5]) (by decide +kernel) (by simp) ?_
              refine AllReady.cons rfl (fun K hK => ?_) AllReady.nil
              refine step_append rfl (.tmp 32) (.tmp 35) 23 rfl (n1 + 1) 25 i0 _ 7 72 Tryz.underlying23 hi hz0 hz1 hz2 rfl (by decide) v j (row es) rfl (HO2.out.alloc _) ⟨w2.heap.size, 0, none⟩ 1 1 (enCells ⟨hd, A, l, c'⟩) rfl rfl (new7 w2 ⟨hd, A, l, c'⟩) (one7 ⟨hd, A, l, c'⟩) (by unfold maxLen; omega) (by omega) (by have := HB2.out.lt; simp; omega) ?_
              intro v' w3 hown' hg hv'
              obtain ⟨g', cc', rfl, -, -, -, -⟩ := own_slice hown' (Nat.succ_pos j)
              obtain ⟨r1, r2, r3, r4, r5, r6, r7, r8⟩ := fin_round HP2.out HS2.out HF2.out hlt h01' (Hn0.out ▸ HB02.out) HB2.out (fun k e => (HO2.out.lt k e).1) hg hv' hown'
              have c63 : w3.cell? ⟨n1, 6, none⟩ = some v := r7.trans c62
              have z63 := r8.trans z62
              have R1 := Lib.hid r1
              have R := Lib.hid (And.intro r2 (And.intro r3 (And.intro r4 (And.intro r5 r6))))
              clear r1 r2 r3 r4 r5 r6 r7 r8 hown' hg hv' c62 z62 c6A c6
              refine hK _ _ ?_
              clear hK K
              refine wpAny_ready (rs := [6]) (by decide +kernel) (by simp) ?_
              refine AllReady.cons rfl (fun K hK => ?_) AllReady.nil
              go_simp
              refine hK _ _ ?_
              clear hK K
              refine wpAny_ready (rs := [7]) (by decide +kernel) (by simp) ?_
              refine AllReady.cons rfl (fun K hK => ?_) AllReady.nil
              go_simp
              refine hK _ _ ?_
              clear hK K
              refine wpAny_done (by decide +kernel) ?_ _
              exact ⟨rfl, hd, A, l, c', s2, f2, _, _, _, _, _, _, _, _, rfl, R1.out, R.out.1, hl2', R.out.2.1, R.out.2.2.1, R.out.2.2.2.1, by rw [row_snoc]; exact R.out.2.2.2.2⟩
        case goon =>
          rintro _ _ w5' ⟨rfl, hd, A, l, c', s2, f2, v', y31, y32, y33, y34, y35, y36, y37, rfl, q1, q2, q3, q4, q5, q6, q7⟩
          have Q := Lib.hid (And.intro q1 (And.intro q2 (And.intro q3 (And.intro q4 (And.intro q5 (And.intro q6 q7))))))
          clear q1 q2 q3 q4 q5 q6 q7 HP HSt HEn HFr HB0 HB1 HO HS1 Hf1
          go_wp2_with fail
          go_roundw
          case rel =>
            obtain ⟨q1, q2, q3, q4, q5, q6, q7⟩ := Q.out
            exact ⟨j + 1, v', es ++ [⟨hd, A, l, c'⟩], s2, f2, by omega, by go_num, by unfold mkAt; rw [if_neg (by omega)], q1, q2, q3, HE.out.fr q4 hrb, q4, by rw [Hn0.out]; exact q5, q6, q7⟩
          case measure => simp [intOf]; omega
      · obtain rfl : j = nPart op := by omega
        have C := Lib.hid (need_any rb s' [41] f' wr HSt.out)
        go_wp2_with fail
        refine C.out.mono ?_
        rintro e w8 ⟨rfl, hs8, hf8⟩
        obtain ⟨A, kk, cc, hvv, hR⟩ := work_done (w' := w8) h2 h6 HX.out HN.out HP.out HO.out h01 (fun k hk hl => hf8.block k hl (by omega))
        subst hvv
        have hB8 := HB1.out.fr hf8 hr1
        have hB08 := HB0.out.fr hf8 hn0
        have c0 : w8.cell? ⟨n1, 0, none⟩ = some (.int .i64 op) := (hB8.cell 0).trans rfl
        have c1 : w8.cell? ⟨n1, 1, none⟩ = some (.int .i64 (axI s)) := (hB8.cell 1).trans rfl
        have c2 : w8.cell? ⟨n1, 2, none⟩ = some (.int .u8 0) := (hB8.cell 2).trans rfl
        have c3 : w8.cell? ⟨n1, 3, none⟩ = some (.int .i64 a) := (hB8.cell 3).trans rfl
        have c4 : w8.cell? ⟨n1, 4, none⟩ = some (.int .i64 b) := (hB8.cell 4).trans rfl
        have c5 : w8.cell? ⟨n1, 5, none⟩ = some (.int .i64 c) := (hB8.cell 5).trans rfl
        have c6 : w8.cell? ⟨n1, 6, none⟩ = some (.slice A kk cc) := (hB8.cell 6).trans rfl
        have d0 : w8.cell? ⟨n0, 0, none⟩ = some (.int .i64 0) := (hB08.cell 0).trans rfl
        have d1 : w8.cell? ⟨n0, 1, none⟩ = some (.int .i64 0) := (hB08.cell 1).trans rfl
        have d2 : w8.cell? ⟨n0, 2, none⟩ = some (.int .u8 0) := (hB08.cell 2).trans rfl
        have d3 : w8.cell? ⟨n0, 3, none⟩ = some (.int .i64 0) := (hB08.cell 3).trans rfl
        have d4 : w8.cell? ⟨n0, 4, none⟩ = some (.int .i64 0) := (hB08.cell 4).trans rfl
        have d5 : w8.cell? ⟨n0, 5, none⟩ = some (.int .i64 0) := (hB08.cell 5).trans rfl
        have d6 : w8.cell? ⟨n0, 6, none⟩ = some (.slice none 0 0) := (hB08.cell 6).trans rfl
        have z0 := hB08.frozen 0
        have z1 := hB08.frozen 1
        have z2 := hB08.frozen 2
        have z3 := hB08.frozen 3
        have z4 := hB08.frozen 4
        have z5 := hB08.frozen 5
        have z6 := hB08.frozen 6
        have HR := Lib.hid hR
        have HS8 := Lib.hid hs8
        have HF8 := Lib.hid (HFr.out.trans hf8)
        have HB08 := Lib.hid hB08
        have hl8 : (needS [41] s' f').1.length ≤ s.length := Nat.le_trans (needS_len [41] s' f') (by omega)
        have Hf8 := Lib.hid hf8
        clear hR hs8 hf8 hB8 hB08 C HSt HEn HFr HB0 HB1 HR
        go_wp2_with fail
        generalize hW : (((((((w8.setCell { block := n0, off := 0 } (Value.int IntKind.i64 op)).setCell { block := n0, off := 1 } (Value.int IntKind.i64 (axI s))).setCell { block := n0, off := 2 } (Value.int IntKind.u8 0)).setCell { block := n0, off := 3 } (Value.int IntKind.i64 a)).setCell { block := n0, off := 4 } (Value.int IntKind.i64 b)).setCell { block := n0, off := 5 } (Value.int IntKind.i64 c)).setCell { block := n0, off := 6 } (Value.slice A kk cc)) = WW
        have hW' : put7 w8 n0 (.int .i64 op) (.int .i64 (axI s)) (.int .u8 0) (.int .i64 a) (.int .i64 b) (.int .i64 c) (.slice A kk cc) = WW := hW
        obtain ⟨A', kk', cc', hvv, hR⟩ := work_done (w' := WW) h2 h6 HX.out HN.out HP.out HO.out h01 (fun k hk hl => by rw [← hW', put7_heap _ _ _ _ _ _ _ _ _ k (by omega)]; exact Hf8.out.block k hl (by omega))
        cases hvv
        have HZ := put7_blk (.int .i64 op) (.int .i64 (axI s)) (.int .u8 0) (.int .i64 a) (.int .i64 b) (.int .i64 c) (.slice A kk cc) HB08.out
        have HFZ : Fr rb w _ := put7_fr HF8.out (Nat.le_of_eq Hn0.out.symm) (.int .i64 op) (.int .i64 (axI s)) (.int .u8 0) (.int .i64 a) (.int .i64 b) (.int .i64 c) (.slice A kk cc)
        have HSZ : St WW rb (needS [41] s' f').1 (needS [41] s' f').2 := by rw [← hW']; exact (put7_heap _ _ _ _ _ _ _ _ _ rb (Ne.symm hn0)).trans HS8.out
        rw [hW'] at HZ HFZ
        have e0 : WW.cell? ⟨n0, 0, none⟩ = some (.int .i64 op) := (HZ.cell 0).trans rfl
        have e1 : WW.cell? ⟨n0, 1, none⟩ = some (.int .i64 (axI s)) := (HZ.cell 1).trans rfl
        have e2 : WW.cell? ⟨n0, 2, none⟩ = some (.int .u8 0) := (HZ.cell 2).trans rfl
        have e3 : WW.cell? ⟨n0, 3, none⟩ = some (.int .i64 a) := (HZ.cell 3).trans rfl
        have e4 : WW.cell? ⟨n0, 4, none⟩ = some (.int .i64 b) := (HZ.cell 4).trans rfl
        have e5 : WW.cell? ⟨n0, 5, none⟩ = some (.int .i64 c) := (HZ.cell 5).trans rfl
        have e6 : WW.cell? ⟨n0, 6, none⟩ = some (.slice A kk cc) := (HZ.cell 6).trans rfl
        refine bodyPost_ret (v := bv ⟨op, axI s, 0, a, b, c⟩ A kk cc) (by simp [results, Tryz.results110, go_sem, bv, hdc, e0, e1, e2, e3, e4, e5, e6]) rfl ?_
        exact ⟨_, A, kk, cc, _, _, rfl, HSZ, hl8, HFZ, hR.to fun b hb _ => ⟨by rw [← Hn0.out]; exact hb, rfl⟩⟩
  · have hxs : axS s f = (s.tail, f) := by unfold axS; rw [if_neg hx]
    obtain ⟨s3, f3, HX⟩ : ∃ s3 f3, Hid ((s3, f3) = axS s f) := ⟨_, _, Lib.hid rfl⟩
    have HS3 : Hid (St w2 rb s3 f3) := Lib.hid (by have := HX.out.trans hxs; cases this; exact HS1.out)
    have hl3 : s3.length ≤ s.length := by have := axS_len s f; rw [← HX.out] at this; exact this
    obtain ⟨w3, rfl⟩ : ∃ w3, w3 = w2 := ⟨_, rfl⟩
    have HF3 := HF1
    have HE3 := HE1
    have HB3 := HB1
    clear HF1 HE1 HB1 HS1 hxs
    go_wp2_with fail
    refine (kindOf_any op (by omega) h6 _ HE3.out.own).mono ?_
    rintro e w4 ⟨rfl, hb4⟩
    have HF4 : Hid (Fr rb w w4) := Lib.hid (HF3.out.trans (Fr.of hb4))
    have HE4 := Lib.hid (HE3.out.below hb4)
    have HB4 := Lib.hid (HB3.out.fr (Fr.of hb4) hn0)
    have HS4 := Lib.hid (HS3.out.below hb4)
    clear hb4 HF3 HE3 HB3 HS3
    have k1 := fun w => fldK1 op w
    go_wp2_with fail
    refine (numbers_any rb (nNum op) s3 f3 w4 HS4.out HE4.out hrb (by omega) (nNum_le op)).mono ?_
    rintro e w5 ⟨a, b, c, s5, f5, rfl, hN, hs5, hf5⟩
    have hl5 : s5.length ≤ s3.length := NRel.len (i := 0) hN rfl
    have HN := Lib.hid hN
    have HF5 := Lib.hid (HF4.out.trans hf5)
    have HE5 := Lib.hid (HE4.out.fr hf5 hrb)
    have HB5 := Lib.hid (HB4.out.fr hf5 hn0)
    have HS5 := Lib.hid hs5
    clear hN hf5 hs5 HF4 HE4 HB4 HS4 k1
    go_wp2_with fail
    have B6 := Blk.new w5 25 #[.int .i64 op, .int .i64 (axI s), .int .u8 0, .int .i64 a, .int .i64 b, .int .i64 c, .slice none 0 0]
    have hb6 := (Below.refl w5.heap.size w5).alloc (Nat.le_refl _) (.cells #[.int .i64 op, .int .i64 (axI s), .int .u8 0, .int .i64 a, .int .i64 b, .int .i64 c, .slice none 0 0] 25)
    have HE6 := HE5.out.below hb6
    generalize hW6 : w5.alloc (.cells #[.int .i64 op, .int .i64 (axI s), .int .u8 0, .int .i64 a, .int .i64 b, .int .i64 c, .slice none 0 0] 25) = W6 at *
    clear hW6
    refine (kindOf_any op (by omega) h6 _ HE6.own).mono ?_
    rintro e w7 ⟨rfl, hb7⟩
    obtain ⟨i0, hi, hz0, hz1, hz2⟩ := info_parts info25'
    obtain ⟨n0, Hn0⟩ : ∃ n0, Hid (n0 = w.heap.size) := ⟨_, Lib.hid rfl⟩
    obtain ⟨n1, hn1⟩ : ∃ n1, n1 = w5.heap.size := ⟨_, rfl⟩
    have h01 : w.heap.size < n1 := by have := HB5.out.lt; omega
    have hr1 : n1 ≠ rb := by omega
    have HF7 : Hid (Fr rb w w7) := Lib.hid (HF5.out.trans ((Fr.of hb6).trans (Fr.of hb7)))
    have HE7 := Lib.hid (HE6.below hb7)
    have HB7 := Lib.hid (HB5.out.fr ((Fr.of hb6).trans (Fr.of hb7)) hn0)
    have HS7 := Lib.hid ((HS5.out.below hb6).below hb7)
    have B7 := B6.below hb7 B6.lt
    rw [← hn1] at B7
    have HC7 := Lib.hid B7
    have k2 := fun w => fldK2 op w
    rw [← hn1]
    have h01' := h01
    have hp2 := nPart_le op
    rw [← Hn0.out] at h01 hn0 HB7
    rw [← Hn0.out]
    clear hb7 hb6 B6 B7 HE6 HF5 HE5 HB5 HS5 W6
    have Hn1 := Lib.hid hn1
    clear hn1
    go_wp2_with fail
    obtain ⟨wo, rfl⟩ : ∃ wo, wo = w7 := ⟨_, rfl⟩
    go_loopw [7, 26] (fun m i wr => ∃ (j : Nat) (v : Value) (es : List En) (s' : List UInt8) (f' : Bool), j ≤ nPart op ∧ i = .int .i64 j ∧ m = str (mkAt [32, 40] j) ∧ PRel (PV n1 v wr) (pRec n) (nPart op) j [32, 40] s5 f5 s' f' es wr ∧ St wr rb s' f' ∧ s'.length ≤ s3.length ∧ Env wr ∧ Fr rb w wr ∧ Blk wr n0 25 #[.int .i64 0, .int .i64 0, .int .u8 0, .int .i64 0, .int .i64 0, .int .i64 0, .slice none 0 0] ∧ Blk wr n1 25 #[.int .i64 op, .int .i64 (axI s), .int .u8 0, .int .i64 a, .int .i64 b, .int .i64 c, v] ∧ wr.ownsRow (n1 + 1) 25 7 v j (row es)) (fun m i _ => nPart op - (intOf i).toNat)
    case atStart => exact ⟨0, _, [], s5, f5, by omega, rfl, rfl, PRel.start _ _ _ _ _ _ _, HS7.out, hl5, HE7.out, HF7.out, HB7.out, HC7.out, World.ownsRow_nil _ _ _ _⟩
    case round =>
      clear HS7 HE7 HF7 HB7 HC7
      obtain ⟨j, v, es, s', f', hj, rfl, rfl, hP, hSt, hls, hEn, hFr, hB0, hB1, hown⟩ := hrel
      have HP := Lib.hid hP
      have HEn := Lib.hid hEn
      have HFr := Lib.hid hFr
      have HB0 := Lib.hid hB0
      have HB1 := Lib.hid hB1
      have HO := Lib.hid hown
      have HSt := Lib.hid hSt
      clear hP hEn hFr hB0 hB1 hown hSt
      by_cases hlt2 : j < nPart op
      · go_wp2_with fail
        refine (need_any rb s' (mkAt [32, 40] j) f' wr HSt.out).mono ?_
        rintro e w1 ⟨rfl, hs1, hf1⟩
        obtain ⟨s1, f1, HN1⟩ : ∃ s1 f1, Hid ((s1, f1) = needS (mkAt [32, 40] j) s' f') := ⟨_, _, Lib.hid rfl⟩
        rw [← HN1.out] at hs1
        have hl1 : s1.length ≤ s3.length := by have := needS_len (mkAt [32, 40] j) s' f'; rw [← HN1.out] at this; exact Nat.le_trans this hls
        have HS1 := Lib.hid hs1
        have Hf1 := Lib.hid hf1
        clear hs1 hf1 hls
        go_wp2_with fail
        refine Code.wp_mono (Q := fun e a' w' => e = .normal ∧ ∃ hd A l c' s2 f2 v' y31 y32 y33 y34 y35 y36 y37, a' = { tmps := #[rp rb, .int .i64 op, undef, undef, .pointer (some ⟨n0, 0, none⟩), .int .i64 (axI s), .pointer (some ⟨n1, 0, none⟩), str (mkAt [32, 40] j), rp rb, .int .u8 (letV s), .int .i64 (axI s), .int .i64 (axI s), .bool (decide (axI s < 0)), undef, undef, .int .i64 op, .int .i64 (axI s), rp rb, .int .i64 op, kindV op, .int .i64 (nNum op), .agg #[.int .i64 a, .int .i64 b, .int .i64 c], .agg #[.int .i64 op, .int .i64 (axI s), .int .u8 0, .int .i64 a, .int .i64 b, .int .i64 c, .slice none 0 0], .int .i64 op, kindV op, .int .i64 (nPart op), .int .i64 j, .bool true, rp rb, str (mkAt [32, 40] j), .tuple #[], y31, y32, y33, y34, y35, y36, y37, u38, undef, undef, undef], defers := [] } ∧ PRel (PV n1 v' w') (pRec n) (nPart op) (j + 1) [32, 40] s5 f5 s2 f2 (es ++ [⟨hd, A, l, c'⟩]) w' ∧ St w' rb s2 f2 ∧ s2.length ≤ s3.length ∧ Fr rb w w' ∧ Blk w' w.heap.size 25 #[.int .i64 0, .int .i64 0, .int .u8 0, .int .i64 0, .int .i64 0, .int .i64 0, .slice none 0 0] ∧ Blk w' n1 25 #[.int .i64 op, .int .i64 (axI s), .int .u8 0, .int .i64 a, .int .i64 b, .int .i64 c, v'] ∧ w'.ownsRow (n1 + 1) 25 7 v' (j + 1) (row (es ++ [⟨hd, A, l, c'⟩]))) ?goon ?region
        case region =>
          refine wp_region_any (by kernel_rfl) ?_
          change wpAny _ _ _ _ _ _ _ (World.drew _)
          have hdr : Below w1.heap.size w1 w1.drew := (Below.refl _ w1).drew
          have HSd := Lib.hid (HS1.out.below hdr)
          have hfd : Fr rb wr w1.drew := Hf1.out.trans (Fr.of hdr)
          have HFd := Lib.hid (HFr.out.trans hfd)
          have HOd := Lib.hid (own_fr HO.out hfd (by omega))
          have HBd := Lib.hid (HB1.out.fr hfd hr1)
          have HB0d := Lib.hid (HB0.out.fr hfd hn0)
          have HPd : Hid (PRel (PV n1 v w1.drew) (pRec n) (nPart op) j [32, 40] s5 f5 s' f' es w1.drew) := Lib.hid (HP.out.map fun b hb hlb => have e := hfd.block b hlb (by have := hb.1; omega); ⟨⟨hb.1, hb.2.1, hb.2.2.of e⟩, e⟩)
          have HC := Lib.hid (HI.out rb s1 f1 w1.drew (by omega) (by omega) HSd.out (HE.out.fr HFd.out hrb) hrb)
          clear hdr hfd HSd
          generalize w1.drew = wd at *
          clear HS1 Hf1 HFr HO HB1 HB0 HP HEn HSt w1
          have c6 : wd.cell? ⟨n1, 6, none⟩ = some v := (HBd.out.cell 6).trans rfl
          refine wpAny_take (i := 0) (v := ?_) rfl (by kernel_rfl) (by decide +kernel) (by decide +kernel) (fun _ _ _ h => by cases h.1) (Or.inl ⟨by rfl, ?_⟩) ?_
          rotate_left
          · intro w; first | (go_simp; done) | (go_simp; with_reducible rfl)
          refine wpAny_take (i := 2) (v := ?_) rfl (by kernel_rfl) (by decide +kernel) (by decide +kernel) (fun _ _ _ h => by cases h.1) (Or.inl ⟨by rfl, ?_⟩) ?_
          rotate_left
          · intro w; first | (go_simp; done) | (go_simp; with_reducible rfl)
          refine wpAny_ready (rs := [1, 3]) (by decide +kernel) (by simp) ?_
          refine AllReady.cons rfl (fun K hK => ?_) ?_
          · go_simp
            refine hK _ _ ?_
            clear hK K
            refine wpAny_ready (rs := [3]) (by decide +kernel) (by simp) ?_
            refine AllReady.cons rfl (fun K hK => ?_) AllReady.nil
            go_simp
            go_at_call 70
            refine HC.out.mono ?_
            rintro e w2 ⟨hd, A, l, c', s2, f2, rfl, hs2, hl2, hf2, hR⟩
            unfold bv hdc
            dsimp only
            have HS2 := Lib.hid hs2
            have HF2 := Lib.hid (HFd.out.trans hf2)
            have HO2 := Lib.hid (own_fr HOd.out hf2 (by omega))
            have HB2 := Lib.hid (HBd.out.fr hf2 hr1)
            have HB02 := Lib.hid (HB0d.out.fr hf2 hn0)
            have HP2 : Hid (PRel (PV n1 v w2) (pRec n) (nPart op) (j + 1) [32, 40] s5 f5 s2 f2 (es ++ [⟨hd, A, l, c'⟩]) w2) := Lib.hid ((HPd.out.map (q := PV n1 v w2) fun b hb hlb => have e := hf2.block b hlb (by have := hb.1; omega); ⟨⟨hb.1, hb.2.1, hb.2.2.of e⟩, e⟩).step hlt2 (by rw [← HN1.out]; exact hR.to fun b hb _ => ⟨⟨by have := HBd.out.lt; have := hb.1; omega, fun e => by have := (HOd.out.lt b e).2; have := hb.1; omega, hb.2⟩, rfl⟩))
            have hl2' : s2.length ≤ s3.length := Nat.le_trans hl2 hl1
            have c62 : w2.cell? ⟨n1, 6, none⟩ = some v := (HB2.out.cell 6).trans rfl
            have z62 := HB2.out.frozen 6
            have HBA := Lib.hid (HB2.out.alloc (.cells #[.int .i64 hd.op, .int .i64 hd.ax, .int .u8 hd.col, .int .i64 hd.n0, .int .i64 hd.n1, .int .i64 hd.n2, .slice A l c'] 25))
            have c6A : (w2.alloc (.cells #[.int .i64 hd.op, .int .i64 hd.ax, .int .u8 hd.col, .int .i64 hd.n0, .int .i64 hd.n1, .int .i64 hd.n2, .slice A l c'] 25)).cell? ⟨n1, 6, none⟩ = some v := (HBA.out.cell 6).trans rfl
            clear hs2 hf2 hR hl2
            refine hK _ _ ?_
            clear hK K
            refine wpAny_ready (rs := [4]) (by decide +kernel) (by simp) ?_
            refine AllReady.cons rfl (fun K hK => ?_) AllReady.nil
            go_simp
            refine hK _ _ ?_
            clear hK K
            refine wpAny_ready (rs := [5]) (by decide +kernel) (by simp) ?_
            refine AllReady.cons rfl (fun K hK => ?_) AllReady.nil
            refine step_append rfl (.tmp 32) (.tmp 35) 23 rfl (n1 + 1) 25 i0 _ 7 72 Tryz.underlying23 hi hz0 hz1 hz2 rfl (by decide) v j (row es) rfl (HO2.out.alloc _) ⟨w2.heap.size, 0, none⟩ 1 1 (enCells ⟨hd, A, l, c'⟩) rfl rfl (new7 w2 ⟨hd, A, l, c'⟩) (one7 ⟨hd, A, l, c'⟩) (by unfold maxLen; omega) (by omega) (by have := HB2.out.lt; simp; omega) ?_
            intro v' w3 hown' hg hv'
            obtain ⟨g', cc', rfl, -, -, -, -⟩ := own_slice hown' (Nat.succ_pos j)
            obtain ⟨r1, r2, r3, r4, r5, r6, r7, r8⟩ := fin_round HP2.out HS2.out HF2.out hlt h01' (Hn0.out ▸ HB02.out) HB2.out (fun k e => (HO2.out.lt k e).1) hg hv' hown'
            have c63 : w3.cell? ⟨n1, 6, none⟩ = some v := r7.trans c62
            have z63 := r8.trans z62
            have R1 := Lib.hid r1
            have R := Lib.hid (And.intro r2 (And.intro r3 (And.intro r4 (And.intro r5 r6))))
            clear r1 r2 r3 r4 r5 r6 r7 r8 hown' hg hv' c62 z62 c6A c6
            refine hK _ _ ?_
            clear hK K
            refine wpAny_ready (rs := [6]) (by decide +kernel) (by simp) ?_
            refine AllReady.cons rfl (fun K hK => ?_) AllReady.nil
            go_simp
            refine hK _ _ ?_
            clear hK K
            refine wpAny_ready (rs := [7]) (by decide +kernel) (by simp) ?_
            refine AllReady.cons rfl (fun K hK => ?_) AllReady.nil
            go_simp
            refine hK _ _ ?_
            clear hK K
            refine wpAny_done (by decide +kernel) ?_ _
            exact ⟨rfl, hd, A, l, c', s2, f2, _, _, _, _, _, _, _, _, rfl, R1.out, R.out.1, hl2', R.out.2.1, R.out.2.2.1, R.out.2.2.2.1, by rw [row_snoc]; exact R.out.2.2.2.2⟩
          · refine AllReady.cons rfl (fun K hK => ?_) AllReady.nil
            go_simp
            go_at_call 70
            refine HC.out.mono ?_
            rintro e w2 ⟨hd, A, l, c', s2, f2, rfl, hs2, hl2, hf2, hR⟩
            unfold bv hdc
            dsimp only
            have HS2 := Lib.hid hs2
            have HF2 := Lib.hid (HFd.out.trans hf2)
            have HO2 := Lib.hid (own_fr HOd.out hf2 (by omega))
            have HB2 := Lib.hid (HBd.out.fr hf2 hr1)
            have HB02 := Lib.hid (HB0d.out.fr hf2 hn0)
            have HP2 : Hid (PRel (PV n1 v w2) (pRec n) (nPart op) (j + 1) [32, 40] s5 f5 s2 f2 (es ++ [⟨hd, A, l, c'⟩]) w2) := Lib.hid ((HPd.out.map (q := PV n1 v w2) fun b hb hlb => have e := hf2.block b hlb (by have := hb.1; omega); ⟨⟨hb.1, hb.2.1, hb.2.2.of e⟩, e⟩).step hlt2 (by rw [← HN1.out]; exact hR.to fun b hb _ => ⟨⟨by have := HBd.out.lt; have := hb.1; omega, fun e => by have := (HOd.out.lt b e).2; have := hb.1; omega, hb.2⟩, rfl⟩))
            have hl2' : s2.length ≤ s3.length := Nat.le_trans hl2 hl1
            have c62 : w2.cell? ⟨n1, 6, none⟩ = some v := (HB2.out.cell 6).trans rfl
            have z62 := HB2.out.frozen 6
            have HBA := Lib.hid (HB2.out.alloc (.cells #[.int .i64 hd.op, .int .i64 hd.ax, .int .u8 hd.col, .int .i64 hd.n0, .int .i64 hd.n1, .int .i64 hd.n2, .slice A l c'] 25))
            have c6A : (w2.alloc (.cells #[.int .i64 hd.op, .int .i64 hd.ax, .int .u8 hd.col, .int .i64 hd.n0, .int .i64 hd.n1, .int .i64 hd.n2, .slice A l c'] 25)).cell? ⟨n1, 6, none⟩ = some v := (HBA.out.cell 6).trans rfl
            clear hs2 hf2 hR hl2
            refine hK _ _ ?_
            clear hK K
            refine wpAny_ready (rs := [1, 4]) (by decide +kernel) (by simp) ?_
            refine AllReady.cons rfl (fun K hK => ?_) ?_
            · go_simp
              refine hK _ _ ?_
              clear hK K
              refine wpAny_ready (rs := [4]) (by decide +kernel) (by simp) ?_
              refine AllReady.cons rfl (fun K hK => ?_) AllReady.nil
              go_simp
              refine hK _ _ ?_
              clear hK K
              refine wpAny_ready (rs := [5]) (by decide +kernel) (by simp) ?_
              refine AllReady.cons rfl (fun K hK => ?_) AllReady.nil
              refine step_append rfl (.tmp 32) (.tmp 35) 23 rfl (n1 + 1) 25 i0 _ 7 72 Tryz.underlying23 hi hz0 hz1 hz2 rfl (by decide) v j (row es) rfl (HO2.out.alloc _) ⟨w2.heap.size, 0, none⟩ 1 1 (enCells ⟨hd, A, l, c'⟩) rfl rfl (new7 w2 ⟨hd, A, l, c'⟩) (one7 ⟨hd, A, l, c'⟩) (by unfold maxLen; omega) (by omega) (by have := HB2.out.lt; simp; omega) ?_
              intro v' w3 hown' hg hv'
              obtain ⟨g', cc', rfl, -, -, -, -⟩ := own_slice hown' (Nat.succ_pos j)
              obtain ⟨r1, r2, r3, r4, r5, r6, r7, r8⟩ := fin_round HP2.out HS2.out HF2.out hlt h01' (Hn0.out ▸ HB02.out) HB2.out (fun k e => (HO2.out.lt k e).1) hg hv' hown'
              have c63 : w3.cell? ⟨n1, 6, none⟩ = some v := r7.trans c62
              have z63 := r8.trans z62
              have R1 := Lib.hid r1
              have R := Lib.hid (And.intro r2 (And.intro r3 (And.intro r4 (And.intro r5 r6))))
              clear r1 r2 r3 r4 r5 r6 r7 r8 hown' hg hv' c62 z62 c6A c6
              refine hK _ _ ?_
              clear hK K
              refine wpAny_ready (rs := [6]) (by decide +kernel) (by simp) ?_
              refine AllReady.cons rfl (fun K hK => ?_) AllReady.nil
              go_simp
              refine hK _ _ ?_
              clear hK K
              refine wpAny_ready (rs := [7]) (by decide +kernel) (by simp) ?_
              refine AllReady.cons rfl (fun K hK => ?_) AllReady.nil
              go_simp
              refine hK _ _ ?_
              clear hK K
              refine wpAny_done (by decide +kernel) ?_ _
              exact ⟨rfl, hd, A, l, c', s2, f2, _, _, _, _, _, _, _, _, rfl, R1.out, R.out.1, hl2', R.out.2.1, R.out.2.2.1, R.out.2.2.2.1, by rw [row_snoc]; exact R.out.2.2.2.2⟩
            · refine AllReady.cons rfl (fun K hK => ?_) AllReady.nil
              go_simp
              refine hK _ _ ?_
              clear hK K
              refine wpAny_ready (rs := [1]) (by decide +kernel) (by simp) ?_
              refine AllReady.cons rfl (fun K hK => ?_) AllReady.nil
              go_simp
              refine hK _ _ ?_
              clear hK K
              refine wpAny_ready (rs := [5]) (by decide +kernel) (by simp) ?_
              refine AllReady.cons rfl (fun K hK => ?_) AllReady.nil
              refine step_append rfl (.tmp 32) (.tmp 35) 23 rfl (n1 + 1) 25 i0 _ 7 72 Tryz.underlying23 hi hz0 hz1 hz2 rfl (by decide) v j (row es) rfl (HO2.out.alloc _) ⟨w2.heap.size, 0, none⟩ 1 1 (enCells ⟨hd, A, l, c'⟩) rfl rfl (new7 w2 ⟨hd, A, l, c'⟩) (one7 ⟨hd, A, l, c'⟩) (by unfold maxLen; omega) (by omega) (by have := HB2.out.lt; simp; omega) ?_
              intro v' w3 hown' hg hv'
              obtain ⟨g', cc', rfl, -, -, -, -⟩ := own_slice hown' (Nat.succ_pos j)
              obtain ⟨r1, r2, r3, r4, r5, r6, r7, r8⟩ := fin_round HP2.out HS2.out HF2.out hlt h01' (Hn0.out ▸ HB02.out) HB2.out (fun k e => (HO2.out.lt k e).1) hg hv' hown'
              have c63 : w3.cell? ⟨n1, 6, none⟩ = some v := r7.trans c62
              have z63 := r8.trans z62
              have R1 := Lib.hid r1
              have R := Lib.hid (And.intro r2 (And.intro r3 (And.intro r4 (And.intro r5 r6))))
              clear r1 r2 r3 r4 r5 r6 r7 r8 hown' hg hv' c62 z62 c6A c6
              refine hK _ _ ?_
              clear hK K
              refine wpAny_ready (rs := [6]) (by decide +kernel) (by simp) ?_
              refine AllReady.cons rfl (fun K hK => ?_) AllReady.nil
              go_simp
              refine hK _ _ ?_
              clear hK K
              refine wpAny_ready (rs := [7]) (by decide +kernel) (by simp) ?_
              refine AllReady.cons rfl (fun K hK => ?_) AllReady.nil
              go_simp
              refine hK _ _ ?_
              clear hK K
              refine wpAny_done (by decide +kernel) ?_ _
              exact ⟨rfl, hd, A, l, c', s2, f2, _, _, _, _, _, _, _, _, rfl, R1.out, R.out.1, hl2', R.out.2.1, R.out.2.2.1, R.out.2.2.2.1, by rw [row_snoc]; exact R.out.2.2.2.2⟩
        case goon =>
          rintro _ _ w5' ⟨rfl, hd, A, l, c', s2, f2, v', y31, y32, y33, y34, y35, y36, y37, rfl, q1, q2, q3, q4, q5, q6, q7⟩
          have Q := Lib.hid (And.intro q1 (And.intro q2 (And.intro q3 (And.intro q4 (And.intro q5 (And.intro q6 q7))))))
          clear q1 q2 q3 q4 q5 q6 q7 HP HSt HEn HFr HB0 HB1 HO HS1 Hf1
          go_wp2_with fail
          go_roundw
          case rel =>
            obtain ⟨q1, q2, q3, q4, q5, q6, q7⟩ := Q.out
            exact ⟨j + 1, v', es ++ [⟨hd, A, l, c'⟩], s2, f2, by omega, by go_num, by unfold mkAt; rw [if_neg (by omega)], q1, q2, q3, HE.out.fr q4 hrb, q4, by rw [Hn0.out]; exact q5, q6, q7⟩
          case measure => simp [intOf]; omega
      · obtain rfl : j = nPart op := by omega
        have C := Lib.hid (need_any rb s' [41] f' wr HSt.out)
        go_wp2_with fail
        refine C.out.mono ?_
        rintro e w8 ⟨rfl, hs8, hf8⟩
        obtain ⟨A, kk, cc, hvv, hR⟩ := work_done (w' := w8) h2 h6 HX.out HN.out HP.out HO.out h01 (fun k hk hl => hf8.block k hl (by omega))
        subst hvv
        have hB8 := HB1.out.fr hf8 hr1
        have hB08 := HB0.out.fr hf8 hn0
        have c0 : w8.cell? ⟨n1, 0, none⟩ = some (.int .i64 op) := (hB8.cell 0).trans rfl
        have c1 : w8.cell? ⟨n1, 1, none⟩ = some (.int .i64 (axI s)) := (hB8.cell 1).trans rfl
        have c2 : w8.cell? ⟨n1, 2, none⟩ = some (.int .u8 0) := (hB8.cell 2).trans rfl
        have c3 : w8.cell? ⟨n1, 3, none⟩ = some (.int .i64 a) := (hB8.cell 3).trans rfl
        have c4 : w8.cell? ⟨n1, 4, none⟩ = some (.int .i64 b) := (hB8.cell 4).trans rfl
        have c5 : w8.cell? ⟨n1, 5, none⟩ = some (.int .i64 c) := (hB8.cell 5).trans rfl
        have c6 : w8.cell? ⟨n1, 6, none⟩ = some (.slice A kk cc) := (hB8.cell 6).trans rfl
        have d0 : w8.cell? ⟨n0, 0, none⟩ = some (.int .i64 0) := (hB08.cell 0).trans rfl
        have d1 : w8.cell? ⟨n0, 1, none⟩ = some (.int .i64 0) := (hB08.cell 1).trans rfl
        have d2 : w8.cell? ⟨n0, 2, none⟩ = some (.int .u8 0) := (hB08.cell 2).trans rfl
        have d3 : w8.cell? ⟨n0, 3, none⟩ = some (.int .i64 0) := (hB08.cell 3).trans rfl
        have d4 : w8.cell? ⟨n0, 4, none⟩ = some (.int .i64 0) := (hB08.cell 4).trans rfl
        have d5 : w8.cell? ⟨n0, 5, none⟩ = some (.int .i64 0) := (hB08.cell 5).trans rfl
        have d6 : w8.cell? ⟨n0, 6, none⟩ = some (.slice none 0 0) := (hB08.cell 6).trans rfl
        have z0 := hB08.frozen 0
        have z1 := hB08.frozen 1
        have z2 := hB08.frozen 2
        have z3 := hB08.frozen 3
        have z4 := hB08.frozen 4
        have z5 := hB08.frozen 5
        have z6 := hB08.frozen 6
        have HR := Lib.hid hR
        have HS8 := Lib.hid hs8
        have HF8 := Lib.hid (HFr.out.trans hf8)
        have HB08 := Lib.hid hB08
        have hl8 : (needS [41] s' f').1.length ≤ s.length := Nat.le_trans (needS_len [41] s' f') (by omega)
        have Hf8 := Lib.hid hf8
        clear hR hs8 hf8 hB8 hB08 C HSt HEn HFr HB0 HB1 HR
        go_wp2_with fail
        generalize hW : (((((((w8.setCell { block := n0, off := 0 } (Value.int IntKind.i64 op)).setCell { block := n0, off := 1 } (Value.int IntKind.i64 (axI s))).setCell { block := n0, off := 2 } (Value.int IntKind.u8 0)).setCell { block := n0, off := 3 } (Value.int IntKind.i64 a)).setCell { block := n0, off := 4 } (Value.int IntKind.i64 b)).setCell { block := n0, off := 5 } (Value.int IntKind.i64 c)).setCell { block := n0, off := 6 } (Value.slice A kk cc)) = WW
        have hW' : put7 w8 n0 (.int .i64 op) (.int .i64 (axI s)) (.int .u8 0) (.int .i64 a) (.int .i64 b) (.int .i64 c) (.slice A kk cc) = WW := hW
        obtain ⟨A', kk', cc', hvv, hR⟩ := work_done (w' := WW) h2 h6 HX.out HN.out HP.out HO.out h01 (fun k hk hl => by rw [← hW', put7_heap _ _ _ _ _ _ _ _ _ k (by omega)]; exact Hf8.out.block k hl (by omega))
        cases hvv
        have HZ := put7_blk (.int .i64 op) (.int .i64 (axI s)) (.int .u8 0) (.int .i64 a) (.int .i64 b) (.int .i64 c) (.slice A kk cc) HB08.out
        have HFZ : Fr rb w _ := put7_fr HF8.out (Nat.le_of_eq Hn0.out.symm) (.int .i64 op) (.int .i64 (axI s)) (.int .u8 0) (.int .i64 a) (.int .i64 b) (.int .i64 c) (.slice A kk cc)
        have HSZ : St WW rb (needS [41] s' f').1 (needS [41] s' f').2 := by rw [← hW']; exact (put7_heap _ _ _ _ _ _ _ _ _ rb (Ne.symm hn0)).trans HS8.out
        rw [hW'] at HZ HFZ
        have e0 : WW.cell? ⟨n0, 0, none⟩ = some (.int .i64 op) := (HZ.cell 0).trans rfl
        have e1 : WW.cell? ⟨n0, 1, none⟩ = some (.int .i64 (axI s)) := (HZ.cell 1).trans rfl
        have e2 : WW.cell? ⟨n0, 2, none⟩ = some (.int .u8 0) := (HZ.cell 2).trans rfl
        have e3 : WW.cell? ⟨n0, 3, none⟩ = some (.int .i64 a) := (HZ.cell 3).trans rfl
        have e4 : WW.cell? ⟨n0, 4, none⟩ = some (.int .i64 b) := (HZ.cell 4).trans rfl
        have e5 : WW.cell? ⟨n0, 5, none⟩ = some (.int .i64 c) := (HZ.cell 5).trans rfl
        have e6 : WW.cell? ⟨n0, 6, none⟩ = some (.slice A kk cc) := (HZ.cell 6).trans rfl
        refine bodyPost_ret (v := bv ⟨op, axI s, 0, a, b, c⟩ A kk cc) (by simp [results, Tryz.results110, go_sem, bv, hdc, e0, e1, e2, e3, e4, e5, e6]) rfl ?_
        exact ⟨_, A, kk, cc, _, _, rfl, HSZ, hl8, HFZ, hR.to fun b hb _ => ⟨by rw [← Hn0.out]; exact hb, rfl⟩⟩
end Go.Proofs.YticjhkfidgkecaaGreatDoor
