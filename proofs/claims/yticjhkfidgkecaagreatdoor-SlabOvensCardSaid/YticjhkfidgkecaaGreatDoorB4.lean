import Derived.Test.YticjhkfidgkecaaGreatDoorB3
namespace Go.Proofs.YticjhkfidgkecaaGreatDoor
open Go.RowKit Pl

/-! ### recipes in blocks of which something is known -/
mutual
def RdLP (p : Nat → Prop) (w : World) : List Tree → Option Addr → Prop
  | [], _ => True
  | t :: ts, A => ∃ b o, A = some ⟨b, o, none⟩ ∧ p b ∧ RdTP p w t b o ∧ RdLP p w ts (some ⟨b, o + 7, none⟩)
def RdTP (p : Nat → Prop) (w : World) : Tree → Nat → Nat → Prop
  | .node h ps, b, o => ∃ A c, HC w b o h A ps.length c ∧ RdLP p w ps A
end
theorem rdp_rd {p : Nat → Prop} {w : World} : (∀ t : Tree, ∀ b o, RdTP p w t b o → RdT w t b o) ∧ (∀ ps : List Tree, ∀ A, RdLP p w ps A → RdL w ps A) := by
  have key : ∀ t : Tree, ∀ b o, RdTP p w t b o → RdT w t b o := by
    apply Tree.ind
    intro h ps ih b o hr
    rw [RdTP] at hr
    rw [RdT]
    obtain ⟨A, c, h1, h2⟩ := hr
    refine ⟨A, c, h1, ?_⟩
    clear h1
    induction ps generalizing A with
    | nil => trivial
    | cons t ts ihl =>
      rw [RdLP] at h2
      rw [RdL]
      obtain ⟨b', o', he, _, h3, h4⟩ := h2
      exact ⟨b', o', he, ih t (List.mem_cons_self ..) _ _ h3, ihl (fun p hp => ih p (List.mem_cons_of_mem _ hp)) _ h4⟩
  refine ⟨key, fun ps => ?_⟩
  induction ps with
  | nil => intro A _; trivial
  | cons t ts ih =>
    intro A h
    rw [RdLP] at h
    rw [RdL]
    obtain ⟨b', o', he, _, h3, h4⟩ := h
    exact ⟨b', o', he, key t _ _ h3, ih _ h4⟩
theorem HC.same {w w' : World} {b o : Nat} {h : Hd} {A : Option Addr} {n c : Nat} (H : HC w b o h A n c) (hb : w'.heap[b]? = w.heap[b]?) : HC w' b o h A n c := by
  have k : ∀ i, w'.cell? ⟨b, i, none⟩ = w.cell? ⟨b, i, none⟩ := fun i => World.cell?_of_block (a := ⟨b, i, none⟩) hb
  unfold HC at *
  simp only [k]
  exact H
theorem rdp_map {p q : Nat → Prop} {w w' : World} (hm : ∀ b, p b → b < w.heap.size → q b ∧ w'.heap[b]? = w.heap[b]?) : (∀ t : Tree, ∀ b o, p b → RdTP p w t b o → RdTP q w' t b o) ∧ (∀ ps : List Tree, ∀ A, RdLP p w ps A → RdLP q w' ps A) := by
  have key : ∀ t : Tree, ∀ b o, p b → RdTP p w t b o → RdTP q w' t b o := by
    apply Tree.ind
    intro h ps ih b o hpb hr
    rw [RdTP] at hr ⊢
    obtain ⟨A, c, h1, h2⟩ := hr
    refine ⟨A, c, h1.same (hm b hpb (cell_lt h1.1)).2, ?_⟩
    clear h1
    induction ps generalizing A with
    | nil => trivial
    | cons t ts ihl =>
      rw [RdLP] at h2 ⊢
      obtain ⟨b', o', he, hp', h3, h4⟩ := h2
      have hl : b' < w.heap.size := by
        cases t with
        | node hd tps => rw [RdTP] at h3; obtain ⟨_, _, hh, _⟩ := h3; exact cell_lt hh.1
      exact ⟨b', o', he, (hm b' hp' hl).1, ih t (List.mem_cons_self ..) _ _ hp' h3, ihl (fun p hp => ih p (List.mem_cons_of_mem _ hp)) _ h4⟩
  refine ⟨key, fun ps => ?_⟩
  induction ps with
  | nil => intro A _; trivial
  | cons t ts ih =>
    intro A h
    rw [RdLP] at h ⊢
    obtain ⟨b', o', he, hp', h3, h4⟩ := h
    have hl : b' < w.heap.size := by
      cases t with
      | node hd tps => rw [RdTP] at h3; obtain ⟨_, _, hh, _⟩ := h3; exact cell_lt hh.1
    exact ⟨b', o', he, (hm b' hp' hl).1, key t _ _ hp' h3, ih _ h4⟩

/-! ### a row of blocks -/
structure En where
  h : Hd
  A : Option Addr
  n : Nat
  c : Nat
def enCells (e : En) : List Value := [.int .i64 e.h.op, .int .i64 e.h.ax, .int .u8 e.h.col, .int .i64 e.h.n0, .int .i64 e.h.n1, .int .i64 e.h.n2, .slice e.A e.n e.c]
def row (es : List En) : List Value := es.flatMap enCells
theorem row_snoc (es : List En) (e : En) : row (es ++ [e]) = row es ++ enCells e := by simp [row]
def EnOk (p : Nat → Prop) (w : World) : List En → List Tree → Prop
  | [], [] => True
  | e :: es, t :: ts => (e.h = t.hd ∧ e.n = t.ps.length ∧ RdLP p w t.ps e.A) ∧ EnOk p w es ts
  | _, _ => False
theorem EnOk.snoc {p : Nat → Prop} {w : World} : ∀ {es : List En} {ts : List Tree}, EnOk p w es ts → ∀ {e : En} {t : Tree}, e.h = t.hd → e.n = t.ps.length → RdLP p w t.ps e.A → EnOk p w (es ++ [e]) (ts ++ [t])
  | [], [], _, _, _, a, b, c => ⟨⟨a, b, c⟩, trivial⟩
  | _ :: _, _ :: _, h, _, _, a, b, c => ⟨h.1, EnOk.snoc h.2 a b c⟩
  | [], _ :: _, h, _, _, _, _, _ => h.elim
  | _ :: _, [], h, _, _, _, _, _ => h.elim
theorem EnOk.map {p q : Nat → Prop} {w w' : World} (hm : ∀ b, p b → b < w.heap.size → q b ∧ w'.heap[b]? = w.heap[b]?) : ∀ {es : List En} {ts : List Tree}, EnOk p w es ts → EnOk q w' es ts
  | [], [], _ => trivial
  | _ :: _, _ :: _, h => ⟨⟨h.1.1, h.1.2.1, (rdp_map hm).2 _ _ h.1.2.2⟩, EnOk.map hm h.2⟩
  | [], _ :: _, h => h.elim
  | _ :: _, [], h => h.elim
theorem EnOk.rd {p : Nat → Prop} {w : World} {g : Nat} (hg : p g) : ∀ {es : List En} {ts : List Tree} {o : Nat}, EnOk p w es ts → (∀ i u, (row es)[i]? = some u → w.cell? ⟨g, o + i, none⟩ = some u) → RdLP p w ts (some ⟨g, o, none⟩)
  | [], [], _, _, _ => by rw [RdLP]; trivial
  | e :: es, .node hd tps :: ts, o, h, hc => by
    obtain ⟨⟨rfl, hn, hr⟩, h2⟩ := h
    dsimp only [Tree.hd, Tree.ps] at hn hr
    rw [RdLP]
    refine ⟨g, o, rfl, hg, ?_, EnOk.rd hg h2 fun i u hu => ?_⟩
    · rw [RdTP]
      rw [← hn]
      refine ⟨e.A, e.c, ⟨hc 0 _ rfl, hc 1 _ rfl, hc 2 _ rfl, hc 3 _ rfl, hc 4 _ rfl, hc 5 _ rfl, hc 6 _ rfl⟩, hr⟩
    · have := hc (7 + i) u (by
        unfold row
        rw [List.flatMap_cons, List.getElem?_append_right (by simp [enCells])]
        simpa [enCells, row] using hu)
      rw [show o + 7 + i = o + (7 + i) by omega]
      exact this
  | [], _ :: _, _, h, _ => h.elim
  | _ :: _, [], _, h, _ => h.elim

/-! ### what is read -/
def RRel (p : Nat → Prop) (o : Option (Tree × List UInt8)) (f : Bool) (h : Hd) (A : Option Addr) (k : Nat) (s' : List UInt8) (f' : Bool) (w : World) : Prop :=
  match o with
  | some (t, r) => s' = r ∧ f' = f ∧ h = t.hd ∧ k = t.ps.length ∧ RdLP p w t.ps A
  | none => s' = [] ∧ f' = true
/-- a block of the program's own making: cells, none of them frozen, and no mark behind them -/
def Cl (w : World) (b : Nat) : Prop := ∃ cs t, w.heap[b]? = some (.cells cs t (0, 0))
theorem Cl.of {w w' : World} {b : Nat} (h : Cl w b) (he : w'.heap[b]? = w.heap[b]?) : Cl w' b := by
  obtain ⟨cs, t, hc⟩ := h
  exact ⟨cs, t, he.trans hc⟩
theorem RRel.to {p q : Nat → Prop} {o : Option (Tree × List UInt8)} {f : Bool} {h : Hd} {A : Option Addr} {k : Nat} {s' : List UInt8} {f' : Bool} {w w' : World} (hr : RRel p o f h A k s' f' w) (hm : ∀ b, p b → b < w.heap.size → q b ∧ w'.heap[b]? = w.heap[b]?) : RRel q o f h A k s' f' w' := by
  unfold RRel at *
  cases o with
  | none => exact hr
  | some x =>
    obtain ⟨t, r⟩ := x
    exact ⟨hr.1, hr.2.1, hr.2.2.1, hr.2.2.2.1, (rdp_map hm).2 _ _ hr.2.2.2.2⟩
theorem pRec_nil : ∀ n, pRec n [] = none
  | 0 => rfl
  | n + 1 => by rw [pRec, if_pos (by decide)]; rfl
def mkAt (m : List UInt8) (j : Nat) : List UInt8 := if j = 0 then m else [44, 32]
/-- how far the parts are read -/
def PRel (p : Nat → Prop) (rd : List UInt8 → Option (Tree × List UInt8)) (k j : Nat) (m s : List UInt8) (f : Bool) (s' : List UInt8) (f' : Bool) (es : List En) (w : World) : Prop :=
  es.length = j ∧ ((∃ ts : List Tree, f' = f ∧ EnOk p w es ts ∧ pParts rd k m s = (pParts rd (k - j) (mkAt m j) s').map (fun x => (ts ++ x.1, x.2))) ∨ (pParts rd k m s = none ∧ s' = [] ∧ f' = true))
theorem PRel.start (p : Nat → Prop) (rd : List UInt8 → Option (Tree × List UInt8)) (k : Nat) (m s : List UInt8) (f : Bool) (w : World) : PRel p rd k 0 m s f s f [] w := ⟨rfl, .inl ⟨[], rfl, trivial, by simp [mkAt]⟩⟩
theorem PRel.map {p q : Nat → Prop} {w w' : World} {rd : List UInt8 → Option (Tree × List UInt8)} {k j : Nat} {m s s' : List UInt8} {f f' : Bool} {es : List En} (h : PRel p rd k j m s f s' f' es w)
    (hm : ∀ b, p b → b < w.heap.size → q b ∧ w'.heap[b]? = w.heap[b]?) : PRel q rd k j m s f s' f' es w' := by
  obtain ⟨hl, ⟨ts, a, b, c⟩ | hr⟩ := h
  · exact ⟨hl, .inl ⟨ts, a, b.map hm, c⟩⟩
  · exact ⟨hl, .inr hr⟩
theorem PRel.step {p : Nat → Prop} {w : World} {n : Nat} {k j : Nat} {m s s' : List UInt8} {f f' : Bool} {es : List En} (h : PRel p (pRec n) k j m s f s' f' es w) (hj : j < k)
    {hd : Hd} {A : Option Addr} {l c : Nat} {s2 : List UInt8} {f2 : Bool} (hr : RRel p (pRec n (needS (mkAt m j) s' f').1) (needS (mkAt m j) s' f').2 hd A l s2 f2 w) :
    PRel p (pRec n) k (j + 1) m s f s2 f2 (es ++ [⟨hd, A, l, c⟩]) w := by
  obtain ⟨hl, ⟨ts, rfl, he, hp⟩ | ⟨hp, rfl, rfl⟩⟩ := h
  · refine ⟨by simp [hl], ?_⟩
    obtain ⟨i, hi⟩ : ∃ i, k - j = i + 1 := ⟨k - j - 1, by omega⟩
    rw [hi, pParts] at hp
    unfold needS at hr
    cases hs : strip (mkAt m j) s' with
    | none =>
      rw [hs] at hp hr
      dsimp only at hp hr
      rw [pRec_nil] at hr
      exact .inr ⟨by simpa using hp, hr⟩
    | some s1 =>
      rw [hs] at hp hr
      dsimp only at hp hr
      cases ht : pRec n s1 with
      | none =>
        rw [ht] at hp hr
        exact .inr ⟨by simpa using hp, hr⟩
      | some x =>
        obtain ⟨t, r⟩ := x
        rw [ht] at hp hr
        obtain ⟨rfl, rfl, rfl, rfl, hrd⟩ := hr
        refine .inl ⟨ts ++ [t], rfl, he.snoc rfl rfl hrd, ?_⟩
        rw [hp, show k - (j + 1) = i by omega]
        unfold mkAt
        rw [if_neg (by omega)]
        dsimp only
        cases pParts (pRec n) i [44, 32] s2 with
        | none => rfl
        | some x => simp
  · refine ⟨by simp [hl], .inr ⟨hp, ?_⟩⟩
    unfold needS at hr
    cases hs : strip (mkAt m j) ([] : List UInt8) with
    | none => rw [hs] at hr; dsimp only at hr; rw [pRec_nil] at hr; exact hr
    | some s1 =>
      have := strip_len hs
      have h0 : s1 = [] := List.eq_nil_of_length_eq_zero (by simp at this; omega)
      subst h0
      rw [hs] at hr; dsimp only at hr; rw [pRec_nil] at hr; exact hr
theorem PRel.done {p : Nat → Prop} {w : World} {rd : List UInt8 → Option (Tree × List UInt8)} {k : Nat} {m s s' : List UInt8} {f f' : Bool} {es : List En} (h : PRel p rd k k m s f s' f' es w) :
    es.length = k ∧ match pParts rd k m s with
    | some (ts, r) => s' = r ∧ f' = f ∧ EnOk p w es ts
    | none => s' = [] ∧ f' = true := by
  obtain ⟨hl, ⟨ts, hf, he, hp⟩ | ⟨hp, hs⟩⟩ := h
  · refine ⟨hl, ?_⟩
    rw [Nat.sub_self, pParts] at hp
    rw [hp]
    simp only [Option.map_some, List.append_nil]
    exact ⟨trivial, hf, he⟩
  · refine ⟨hl, ?_⟩
    rw [hp]; exact hs
theorem EnOk.len {p : Nat → Prop} {w : World} : ∀ {es : List En} {ts : List Tree}, EnOk p w es ts → es.length = ts.length
  | [], [], _ => rfl
  | _ :: _, _ :: _, h => by simp [EnOk.len h.2]
  | [], _ :: _, h => h.elim
  | _ :: _, [], h => h.elim
end Go.Proofs.YticjhkfidgkecaaGreatDoor
