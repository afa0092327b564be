/- The document's disk: NewDisk, Arm, Restart, Read, Write. -/
import Derived.Test.YtalfffkcmddakabZ6
namespace Go.Proofs.Ytalfffkcmddakab
open Go.RowKit Go.Shelf

abbrev rkA (D : Pl.Dk) (v0 v1 : Value) (kp : Int) : Array Value := #[v0, v1, .bool (!D.up), .int .i64 (D.fl : Nat), .int .i64 kp, .int .i64 ((D.st - 1 : Nat) : Int)]
/-- block b is this disk of the document -/
structure IsRk (w : World) (b : Nat) (D : Pl.Dk) (v0 v1 : Value) (kp : Int) : Prop where
  blk : Blk w b 82 (rkA D v0 v1 kp)
  kp : 0 < D.fl → kp = D.kp
  o0 : Own8 w v0 D.s0
  o1 : Own8 w v1 D.s1
  st : 1 ≤ D.st
  fb : D.fl ≤ maxLen
def Rsk (w : World) (b : Nat) (D : Pl.Dk) : Prop := ∃ v0 v1 kp, IsRk w b D v0 v1 kp
theorem tRk : (82 : TypeId) ≠ 5 := by decide
theorem tRD : (82 : TypeId) ≠ 39 := by decide
theorem tRJ : (82 : TypeId) ≠ 42 := by decide
section
variable {S : List Nat} {w w' : World} {b : Nat} {D : Pl.Dk} {v0 v1 : Value} {kp : Int}
theorem IsRk.fr (h : IsRk w b D v0 v1 kp) (hf : Fr S w w') (hb : b ∉ S) (hS : ∀ g, g ∈ S → g < w.heap.size → ∃ t cs, Blk w g t cs ∧ t ≠ 5) : IsRk w' b D v0 v1 kp := ⟨h.blk.fr hf hb, h.kp, h.o0.fr hf hS, h.o1.fr hf hS, h.st, h.fb⟩
theorem IsRk.below (h : IsRk w b D v0 v1 kp) (hb : Below w.heap.size w w') : IsRk w' b D v0 v1 kp := h.fr (Fr.of_below [] hb) (by simp) (by simp)
theorem Rsk.below (h : Rsk w b D) (hb : Below w.heap.size w w') : Rsk w' b D := by obtain ⟨v0, v1, kp, h⟩ := h; exact ⟨v0, v1, kp, h.below hb⟩
theorem IsRk.at_ (h : IsRk w b D v0 v1 kp) : ∀ g, g ∈ [b] → g < w.heap.size → ∃ t cs, Blk w g t cs ∧ t ≠ 5 := fun g hg _ => by
  simp at hg; subst hg; exact ⟨_, _, h.blk, tRk⟩
theorem IsRk.drew (h : IsRk w b D v0 v1 kp) : IsRk w.drew b D v0 v1 kp := ⟨h.blk.drew, h.kp, h.o0, h.o1, h.st, h.fb⟩
theorem IsRk.turn (h : IsRk w b D v0 v1 kp) {D' : Pl.Dk} {u0 u1 : Value} {kp' : Int} (hf : Fr [b] w w') (hB : Blk w' b 82 (rkA D' u0 u1 kp')) (hk : 0 < D'.fl → kp' = D'.kp) (hs : 1 ≤ D'.st) (hb : D'.fl ≤ maxLen)
    (h0 : (u0 = v0 ∧ D'.s0 = D.s0) ∨ Own8 w' u0 D'.s0) (h1 : (u1 = v1 ∧ D'.s1 = D.s1) ∨ Own8 w' u1 D'.s1) : IsRk w' b D' u0 u1 kp' := by
  refine ⟨hB, hk, ?_, ?_, hs, hb⟩
  · rcases h0 with ⟨rfl, e⟩ | h0
    · rw [e]; exact h.o0.fr hf h.at_
    · exact h0
  · rcases h1 with ⟨rfl, e⟩ | h1
    · rw [e]; exact h.o1.fr hf h.at_
    · exact h1
theorem IsRk.no (h : IsRk w b D v0 v1 kp) (o : Nat) (x : Int) : ¬ w.cell? ⟨b, o, none⟩ = some (.int .u8 x) := by
  intro hc
  rw [h.blk.cell o] at hc
  match o with
  | 0 => obtain ⟨A, c, e, _⟩ := h.o0.rows; subst e; simp at hc
  | 1 => obtain ⟨A, c, e, _⟩ := h.o1.rows; subst e; simp at hc
  | 2 => simp at hc
  | 3 => simp at hc
  | 4 => simp at hc
  | 5 => simp at hc
  | n + 6 => simp at hc
theorem Rsk.no (h : Rsk w b D) : ∀ g, g ∈ [b] → ∀ o x, ¬ w.cell? ⟨g, o, none⟩ = some (.int .u8 x) := fun g hg o x => by
  obtain ⟨v0, v1, kp, h⟩ := h
  obtain rfl : g = b := by simpa using hg
  exact h.no o x
theorem Rsk.at_ (h : Rsk w b D) : ∀ g, g ∈ [b] → g < w.heap.size → ∃ t cs, Blk w g t cs ∧ t ≠ 5 := by obtain ⟨v0, v1, kp, h⟩ := h; exact h.at_
theorem Dsk.at_ (h : Dsk w b D) : ∀ g, g ∈ [b] → g < w.heap.size → ∃ t cs, Blk w g t cs ∧ t ≠ 5 := by obtain ⟨v0, v1, kp, h⟩ := h; exact h.at_
theorem Dsk.lt (h : Dsk w b D) : b < w.heap.size := by obtain ⟨v0, v1, kp, h⟩ := h; exact h.blk.lt
theorem Rsk.lt (h : Rsk w b D) : b < w.heap.size := by obtain ⟨v0, v1, kp, h⟩ := h; exact h.blk.lt
theorem Dsk.ne {r : Nat} {D' : Pl.Dk} (h : Dsk w b D) (k : Rsk w r D') : b ≠ r := fun e => by
  subst e
  obtain ⟨v0, v1, kp, h⟩ := h
  obtain ⟨u0, u1, kq, k⟩ := k
  exact tRD (k.blk.one h.blk)
theorem Dsk.fr (h : Dsk w b D) (hf : Fr S w w') (hb : b ∉ S) (hS : ∀ g, g ∈ S → g < w.heap.size → ∃ t cs, Blk w g t cs ∧ t ≠ 5) : Dsk w' b D := by obtain ⟨v0, v1, kp, h⟩ := h; exact ⟨v0, v1, kp, h.fr hf hb hS⟩
theorem Rsk.fr (h : Rsk w b D) (hf : Fr S w w') (hb : b ∉ S) (hS : ∀ g, g ∈ S → g < w.heap.size → ∃ t cs, Blk w g t cs ∧ t ≠ 5) : Rsk w' b D := by obtain ⟨v0, v1, kp, h⟩ := h; exact ⟨v0, v1, kp, h.fr hf hb hS⟩
end
theorem own0 (W : World) : (W.alloc (.cells #[] 5)).ownsRow W.heap.size 5 1 (.slice (some ⟨W.heap.size, 0, none⟩) 0 0) 0 [] := World.ownsRow_made W #[] 0 (Nat.le_refl _) (Nat.zero_le _) rfl
/-- append of bytes, as one operation of a region -/
theorem wp_app8 {o : Oper} {a : Act} {w : World} {K : Act → World → Prop} {Q : Exit → Act → World → Prop} (s x : Operand)
    (ho : o.op = .call { callee := .builtin .append, args := #[s, x], argTypes := #[29, 29] }) (B : Nat) (v : Value) (k : Nat) (xs : List Value) (hs : a.eval s = v) (hO : w.ownsRow B 5 1 v k xs) (hB : B ≤ w.heap.size)
    (A : Option Addr) (l : Pl.Bs) (n c : Nat) (hn : l.length = n) (hx : a.eval x = .slice A n c) (hR : Rows u8L 1 w A l) (hnil : A = none → c = 0) (hk : k + n ≤ 1000000)
    (h : ∀ v' w', w'.ownsRow B 5 1 v' (k + n) (xs ++ flt u8L l) → Below B w w' → K (a.put o.dst v') w') : o.wp Try.prog a w K Q := by
  obtain ⟨i0, hi, hz0, hz1, hz2⟩ := info_parts infoU8
  subst hn
  cases A with
  | none =>
    obtain rfl := hnil rfl
    have hl : l = [] := by
      rcases hR with h | ⟨b, off, h1, _⟩
      · exact h
      · cases h1
    subst hl
    have hrun := run_append_owned_none (P := Try.prog) (w := w) B 29 o.type 5 i0 1 Try.underlying29 hi v k xs hO
    unfold Oper.wp
    rw [List.length_nil] at hx
    simp [execOp, ho, resolve, invoke, builtin, hs, hx, hrun, Result.andThen]
    exact h _ _ (by simpa [flt] using hO) (Below.refl _ _)
  | some ad =>
    have hcells : ∀ j u, (flt u8L l)[j]? = some u → w.cell? (ad.add j) = some u := by
      rcases hR with h | ⟨b, off, h1, h2, h3⟩
      · intro j u hj; rw [h] at hj; simp [flt] at hj
      · cases h1; exact rows_cells encU8 h3
    refine wp_append_own _ s x _ ho B 5 i0 _ 1 1 Try.underlying29 hi hz0 hz1 hz2 rfl (by decide) v k xs hs hO ad l.length c (flt u8L l) hx (flt_len encU8 l) hcells (flt_one' encU8 l) (by unfold maxLen; omega) (by omega) hB ?_
    intro v' w' ho' hg _
    exact h v' w' ho' ((Below.refl _ _).grown hg hB (fun s e => (hO.lt s e).1))

set_option maxHeartbeats 1000000 in
theorem rnew_any (w : World) : Calls Try.prog 12 #[] w fun e w' => e = .returned (ptr w.heap.size) ∧ Rsk w' w.heap.size Pl.dk0 ∧ Below w.heap.size w w' := by
  have HH : Hid (IsRk (w.alloc (.cells (rkA Pl.dk0 (.slice none 0 0) (.slice none 0 0) 0) 82)) w.heap.size Pl.dk0 (.slice none 0 0) (.slice none 0 0) 0) := Lib.hid ⟨Blk.new w _ _, fun _ => rfl, Own8.nil _, Own8.nil _, Nat.le_refl _, Nat.zero_le _⟩
  have HB := Lib.hid ((Below.refl w.heap.size w).alloc (Nat.le_refl _) (.cells (rkA Pl.dk0 (.slice none 0 0) (.slice none 0 0) 0) 82))
  go_enter Try.func12, Try.ntmps12
  go_wp2
  go_ret
  exact ⟨rfl, ⟨_, _, _, HH.out⟩, HB.out⟩
section
variable {w : World} {b : Nat} {D : Pl.Dk} {v0 v1 : Value} {kp : Int}
set_option maxHeartbeats 1000000 in
theorem rarm_any (h : Rsk w b D) (n k : Int) (hn : n.toNat ≤ maxLen) : Calls Try.prog 39 #[ptr b, .int .i64 n, .int .i64 k] w fun e w' => e = .returned (.tuple #[]) ∧ Rsk w' b (Pl.armD D n k) ∧ Fr [b] w w' := by
  obtain ⟨v0, v1, kp, h⟩ := h
  have q3 := h.blk.cell 3
  have q4 := h.blk.cell 4
  have f3 := h.blk.frozen 3
  have f4 := h.blk.frozen 4
  have HH := Lib.hid h
  have hm : Hid (max n 0 = ((n.toNat : Nat) : Int)) := Lib.hid (by omega)
  have HHN := Lib.hid hn
  clear h hn
  go_enter Try.func39, Try.ntmps39
  go_wp2
  go_end0
  refine ⟨rfl, ?_⟩
  rw [hm.out]
  have hf : Fr [b] w ((w.setCell ⟨b, 3, none⟩ (.int .i64 (n.toNat : Nat))).setCell ⟨b, 4, none⟩ (.int .i64 k)) := (Fr.setCell w b 3 _).trans (Fr.setCell _ b 4 _)
  exact ⟨⟨_, _, _, HH.out.turn (D' := Pl.armD D n k) hf ((HH.out.blk.set_ 3 _).set_ 4 _) (fun _ => rfl) HH.out.st HHN.out (.inl ⟨rfl, rfl⟩) (.inl ⟨rfl, rfl⟩)⟩, hf⟩
set_option maxHeartbeats 1000000 in
theorem rrestart_any (h : Rsk w b D) (hs : D.st < 4611686018427387904) : Calls Try.prog 40 #[ptr b] w fun e w' => e = .returned (.tuple #[]) ∧ Rsk w' b (Pl.rsD D) ∧ Fr [b] w w' := by
  obtain ⟨v0, v1, kp, h⟩ := h
  have q2 : w.cell? ⟨b, 2, none⟩ = some (.bool (!D.up)) := h.blk.cell 2
  have q3 : w.cell? ⟨b, 3, none⟩ = some (.int .i64 (D.fl : Nat)) := h.blk.cell 3
  have q5 : w.cell? ⟨b, 5, none⟩ = some (.int .i64 ((D.st - 1 : Nat) : Int)) := h.blk.cell 5
  have f2 := h.blk.frozen 2
  have f3 := h.blk.frozen 3
  have f5 := h.blk.frozen 5
  have HH := Lib.hid h
  have HST : Hid (((D.st - 1 : Nat) : Int) + 1 = (((Pl.rsD D).st - 1 : Nat) : Int)) := Lib.hid (by have := h.st; show _ = ((D.st + 1 - 1 : Nat) : Int); omega)
  have hb0 : (D.st - 1 : Nat) < 4611686018427387904 := by omega
  clear h hs
  generalize (D.st - 1 : Nat) = y at *
  go_enter Try.func40, Try.ntmps40
  go_wp2
  go_end0
  refine ⟨rfl, ?_⟩
  rw [HST.out]
  have hf : Fr [b] w (((w.setCell ⟨b, 2, none⟩ (.bool false)).setCell ⟨b, 3, none⟩ (.int .i64 0)).setCell ⟨b, 5, none⟩ (.int .i64 (((Pl.rsD D).st - 1 : Nat) : Int))) := ((Fr.setCell w b 2 _).trans (Fr.setCell _ b 3 _)).trans (Fr.setCell _ b 5 _)
  exact ⟨⟨_, _, _, HH.out.turn (D' := Pl.rsD D) hf (((HH.out.blk.set_ 2 _).set_ 3 _).set_ 5 _) (fun h => absurd h (Nat.lt_irrefl 0)) (Nat.succ_pos _) (Nat.zero_le _) (.inl ⟨rfl, rfl⟩) (.inl ⟨rfl, rfl⟩)⟩, hf⟩
set_option maxRecDepth 100000 in
set_option maxHeartbeats 2000000 in
theorem rread0 (h : IsRk w b D v0 v1 kp) (hu : D.up = true) (hl : D.s0.length ≤ 100000) : Calls Try.prog 38 #[ptr b, .int .i64 0] w fun e w' => ∃ A c, e = .returned (.tuple #[.slice A D.s0.length c, .int .i64 0]) ∧ Rows u8L 1 w' A D.s0 ∧ Below w.heap.size w w' := by
  have q2 : w.cell? ⟨b, 2, none⟩ = some (.bool false) := by rw [h.blk.cell 2]; show some (Value.bool (!D.up)) = _; rw [hu]; rfl
  obtain ⟨A, c, rfl, hR, hnc, hcm⟩ := h.o0.rows
  have hnil : A = none → c = 0 := fun e => by
    subst e
    rcases h.o0.2 with ⟨e, _⟩ | ⟨g, cap, cur, e, _⟩
    · injection e
    · cases e
  have hb := h.blk.lt
  have hA := (Below.refl w.heap.size w).alloc (Nat.le_refl _) (.cells #[] 5)
  have qv : (w.alloc (.cells #[] 5)).cell? ⟨b, 0, none⟩ = some (.slice A D.s0.length c) := (h.below hA).blk.cell 0
  have HO := Lib.hid (own0 w)
  have HR := Lib.hid (hR.below hA)
  have HN := Lib.hid hnil
  have HL : Hid (D.s0.length = D.s0.length) := Lib.hid rfl
  have hs1 : w.heap.size ≤ (w.alloc (.cells #[] 5)).heap.size := hA.size
  have HA := Lib.hid hA
  clear h hu hR hnil hA
  generalize D.s0 = l at *
  generalize hn : l.length = n at *
  have HN2 := Lib.hid hn
  clear hn HL
  go_enter Try.func38, Try.ntmps38
  go_wp2_with (at_builtin; refine wpList_app8 rfl _ _ rfl w.heap.size _ 0 _ rfl HO.out hs1 A l n c HN2.out rfl HR.out HN.out (by omega) ?_; intro v2 w2 hO2 hb2)
  obtain ⟨A2, c2, rfl, hR2, _, _⟩ := rows_of_owns encU8 (show World.ownsRow _ _ _ _ _ (List.length l) _ by rw [HN2.out]; rw [Nat.zero_add, List.nil_append] at hO2; exact hO2)
  have HR2 := Lib.hid hR2
  clear hO2 hR2
  have hB2 := HA.out.trans hb2
  go_wp2
  go_ret2
  exact ⟨A2, c2, by rw [HN2.out]; rfl, HR2.out, hB2⟩
set_option maxRecDepth 100000 in
set_option maxHeartbeats 2000000 in
theorem rread1 (h : IsRk w b D v0 v1 kp) (hu : D.up = true) (hl : D.s1.length ≤ 100000) : Calls Try.prog 38 #[ptr b, .int .i64 1] w fun e w' => ∃ A c, e = .returned (.tuple #[.slice A D.s1.length c, .int .i64 0]) ∧ Rows u8L 1 w' A D.s1 ∧ Below w.heap.size w w' := by
  have q2 : w.cell? ⟨b, 2, none⟩ = some (.bool false) := by rw [h.blk.cell 2]; show some (Value.bool (!D.up)) = _; rw [hu]; rfl
  obtain ⟨A, c, rfl, hR, hnc, hcm⟩ := h.o1.rows
  have hnil : A = none → c = 0 := fun e => by
    subst e
    rcases h.o1.2 with ⟨e, _⟩ | ⟨g, cap, cur, e, _⟩
    · injection e
    · cases e
  have hb := h.blk.lt
  have hA := (Below.refl w.heap.size w).alloc (Nat.le_refl _) (.cells #[] 5)
  have qv : (w.alloc (.cells #[] 5)).cell? ⟨b, 1, none⟩ = some (.slice A D.s1.length c) := (h.below hA).blk.cell 1
  have HO := Lib.hid (own0 w)
  have HR := Lib.hid (hR.below hA)
  have HN := Lib.hid hnil
  have HL : Hid (D.s1.length = D.s1.length) := Lib.hid rfl
  have hs1 : w.heap.size ≤ (w.alloc (.cells #[] 5)).heap.size := hA.size
  have HA := Lib.hid hA
  clear h hu hR hnil hA
  generalize D.s1 = l at *
  generalize hn : l.length = n at *
  have HN2 := Lib.hid hn
  clear hn HL
  go_enter Try.func38, Try.ntmps38
  go_wp2_with (at_builtin; refine wpList_app8 rfl _ _ rfl w.heap.size _ 0 _ rfl HO.out hs1 A l n c HN2.out rfl HR.out HN.out (by omega) ?_; intro v2 w2 hO2 hb2)
  obtain ⟨A2, c2, rfl, hR2, _, _⟩ := rows_of_owns encU8 (show World.ownsRow _ _ _ _ _ (List.length l) _ by rw [HN2.out]; rw [Nat.zero_add, List.nil_append] at hO2; exact hO2)
  have HR2 := Lib.hid hR2
  clear hO2 hR2
  have hB2 := HA.out.trans hb2
  go_wp2
  go_ret2
  exact ⟨A2, c2, by rw [HN2.out]; rfl, HR2.out, hB2⟩
set_option maxRecDepth 100000 in
set_option maxHeartbeats 2000000 in
theorem rread_no (h : IsRk w b D v0 v1 kp) (i : Int) (hr : Pl.rdE D i ≠ 0) : Calls Try.prog 38 #[ptr b, .int .i64 i] w fun e w' => e = .returned (.tuple #[.slice none 0 0, .int .i64 (Pl.rdE D i)]) ∧ w' = w := by
  have q2 : w.cell? ⟨b, 2, none⟩ = some (.bool (!D.up)) := h.blk.cell 2
  clear h
  cases hu : D.up with
  | false =>
    have e1 : Pl.rdE D i = 91 := by unfold Pl.rdE; rw [hu]; rfl
    rw [hu] at q2
    rw [e1]
    clear hr e1
    go_enter Try.func38, Try.ntmps38
    go_wp2
    go_ret2
    exact ⟨rfl, rfl⟩
  | true =>
    have hi : i ≠ 0 ∧ i ≠ 1 := by
      unfold Pl.rdE at hr
      rw [hu, if_neg (by decide)] at hr
      by_cases h' : i ≠ 0 ∧ i ≠ 1
      · exact h'
      · rw [if_neg h'] at hr; exact absurd rfl hr
    have e1 : Pl.rdE D i = 2 := by unfold Pl.rdE; rw [hu, if_neg (by decide), if_pos hi]
    rw [hu] at q2
    rw [e1]
    have h0 : (i != 0) = true := by simpa using hi.1
    have h1 : (i != 1) = true := by simpa using hi.2
    clear hr e1 hi
    go_enter Try.func38, Try.ntmps38
    go_wp2
    go_ret2
    exact ⟨rfl, rfl⟩
end
theorem rd_ok {D : Pl.Dk} {i : Int} (hr : Pl.rdE D i = 0) : D.up = true ∧ (i = 0 ∨ i = 1) := by
  unfold Pl.rdE at hr
  cases hu : D.up with
  | true =>
    refine ⟨rfl, ?_⟩
    rw [hu, if_neg (by decide)] at hr
    by_cases h' : i ≠ 0 ∧ i ≠ 1
    · rw [if_pos h'] at hr; cases hr
    · omega
  | false => rw [hu] at hr; simp at hr
theorem rread_any {w : World} {b : Nat} {D : Pl.Dk} (h : Rsk w b D) (i : Int) (hl : D.s0.length ≤ 100000 ∧ D.s1.length ≤ 100000) :
    Calls Try.prog 38 #[ptr b, .int .i64 i] w fun e w' => ∃ A n c, e = .returned (.tuple #[.slice A n c, .int .i64 (Pl.rdE D i)]) ∧ (Pl.rdV D i).length = n ∧ Rows u8L 1 w' A (Pl.rdV D i) ∧ Below w.heap.size w w' := by
  obtain ⟨v0, v1, kp, h⟩ := h
  by_cases hr : Pl.rdE D i = 0
  · obtain ⟨hu, hi⟩ := rd_ok hr
    have e1 : Pl.rdV D i = D.sl i.toNat := by unfold Pl.rdV; rw [if_pos hr]
    rw [hr, e1]
    rcases hi with rfl | rfl
    · exact (rread0 h hu hl.1).mono fun e w' ⟨A, c, he, hR, hb⟩ => ⟨A, _, c, he, rfl, hR, hb⟩
    · exact (rread1 h hu hl.2).mono fun e w' ⟨A, c, he, hR, hb⟩ => ⟨A, _, c, he, rfl, hR, hb⟩
  · have e1 : Pl.rdV D i = [] := by unfold Pl.rdV; rw [if_neg hr]
    rw [e1]
    exact (rread_no h i hr).mono fun e w' ⟨he, hw⟩ => ⟨none, 0, 0, he, rfl, .inl rfl, by rw [hw]; exact Below.refl _ _⟩
end Go.Proofs.Ytalfffkcmddakab
