/- A journal beside the document's: their states fit. -/
import Derived.Test.YtalfffkcmddakabR7
import Derived.Test.YtalfffkcmddakabV1
namespace Go.Proofs.Ytalfffkcmddakab
open Go.RowKit Go.Shelf

abbrev pairA (b r : Nat) (vj vq : Value) : Array Value := #[ptr b, ptr r, vj, vq]
/-- block p is a pair: a disk and a journal of the program, and of the document -/
structure Pr2 (w : World) (p b r j q : Nat) (D : Pl.Dk) (J : Pl.Jn) : Prop where
  blk : Blk w p 48 (pairA b r (ptr j) (ptr q))
  d : Dsk w b D
  k : Rsk w r D
  j : Jnl w j b J
  q : Rjl w q r J
theorem tPd : (48 : TypeId) ≠ 39 := by decide
theorem tPk : (48 : TypeId) ≠ 82 := by decide
theorem tPj : (48 : TypeId) ≠ 42 := by decide
theorem tPq : (48 : TypeId) ≠ 87 := by decide
theorem tP8 : (48 : TypeId) ≠ 5 := by decide
theorem tJQ : (42 : TypeId) ≠ 87 := by decide
theorem tDQ : (39 : TypeId) ≠ 87 := by decide
theorem tJK : (42 : TypeId) ≠ 82 := by decide
section
variable {w w' : World} {p b r j q : Nat} {D : Pl.Dk} {J : Pl.Jn}
theorem Blk.ne {t t' : TypeId} {cs cs' : Array Value} {g g' : Nat} (h : Blk w g t cs) (h' : Blk w g' t' cs') (ht : t ≠ t') : g ≠ g' := fun e => by
  subst e
  exact ht (h.one h')
theorem Dsk.blk (h : Dsk w b D) : ∃ cs, Blk w b 39 cs := by obtain ⟨v0, v1, kp, h⟩ := h; exact ⟨_, h.blk⟩
theorem Rsk.blk (h : Rsk w r D) : ∃ cs, Blk w r 82 cs := by obtain ⟨v0, v1, kp, h⟩ := h; exact ⟨_, h.blk⟩
theorem Jnl.blk (h : Jnl w j b J) : ∃ cs, Blk w j 42 cs := by obtain ⟨v, h⟩ := h; exact ⟨_, h.blk⟩
theorem Rjl.blk (h : Rjl w q r J) : ∃ cs, Blk w q 87 cs := by obtain ⟨v, h⟩ := h; exact ⟨_, h.blk⟩
theorem Rjl.fr {S : List Nat} (h : Rjl w q r J) (hf : Fr S w w') (hb : q ∉ S) (hS : ∀ g, g ∈ S → g < w.heap.size → ∃ t cs, Blk w g t cs ∧ t ≠ 5) : Rjl w' q r J := by obtain ⟨v, h⟩ := h; exact ⟨v, h.fr hf hb hS⟩
theorem Jnl.fr {S : List Nat} (h : Jnl w j b J) (hf : Fr S w w') (hb : j ∉ S) (hS : ∀ g, g ∈ S → g < w.heap.size → ∃ t cs, Blk w g t cs ∧ t ≠ 5) : Jnl w' j b J := by obtain ⟨v, h⟩ := h; exact ⟨v, h.fr hf hb hS⟩
theorem Pr2.below (h : Pr2 w p b r j q D J) (hb : Below w.heap.size w w') : Pr2 w' p b r j q D J := ⟨h.blk.below hb h.blk.lt, h.d.below hb, h.k.below hb, h.j.below hb, h.q.below hb⟩
end
/-- number i first, its slot by its number -/
theorem takeD {P : Program} {md : Region.Mode} {ops : Array Oper} {Q : Exit → Act → World → Prop} {S : World → Prop} {i : Nat} {oi : Oper} {d : Option Tmp} {v : Value} {fuel : Nat} {listed : Array Bool} {a : Act} {w : World} (hi : ops[i]? = some oi) (hd : oi.dst = d)
    (hs : Region.noSelect ops = true) (hf : Region.free md ops listed i = true) (hr : (Region.ready md ops listed).contains i = true)
    (hQ : ∀ c a w, Q (.panic c) (a.put d v) w → Q (.panic c) a w) (hy : YieldsIf P ops S oi v a) (hS : S w)
    (h : wpAnyH P md ops Q S fuel (listed.setIfInBounds i true) (a.put d v) w) : wpAnyH P md ops Q S (fuel + 1) listed a w := by
  subst hd
  exact wpAnyH_take hi hs hf hr hQ hy hS h
/-- the slots, brought to one form -/
theorem actNorm {P : Program} {md : Region.Mode} {ops : Array Oper} {Q : Exit → Act → World → Prop} {S : World → Prop} {fuel : Nat} {listed : Array Bool} {a : Act} {w : World} (h : ∀ a', a = a' → wpAnyH P md ops Q S fuel listed a' w) : wpAnyH P md ops Q S fuel listed a w := h a rfl
set_option maxRecDepth 100000 in
set_option maxHeartbeats 8000000 in
theorem fits_any {w : World} {p b r j q : Nat} {D : Pl.Dk} {J : Pl.Jn} (h : Pr2 w p b r j q D J) (hl : J.im.length ≤ 100000) :
    Calls Try.prog 21 #[ptr p] w fun e w' => e = .returned (.bool true) ∧ Below w.heap.size w w' := by
  obtain ⟨x, hx⟩ : ∃ x, Pl.ded D J = x := ⟨_, rfl⟩
  have z0 := fun s : Ext w => (h.blk.below s.h h.blk.lt).cell 0
  have z1 := fun s : Ext w => (h.blk.below s.h h.blk.lt).cell 1
  have z2 := fun s : Ext w => (h.blk.below s.h h.blk.lt).cell 2
  have z3 := fun s : Ext w => (h.blk.below s.h h.blk.lt).cell 3
  have HT := Lib.hid (fun s : Ext w => turn_d (h.j.below s.h))
  have HI := Lib.hid (fun s : Ext w => image_d (h.j.below s.h) hl)
  have HD := Lib.hid (fun s : Ext w => dead_d (h.j.below s.h) (h.d.below s.h) x hx)
  have HQ := Lib.hid (fun s : Ext w => rdead_any (h.q.below s.h) (h.k.below s.h) x hx)
  obtain ⟨v, hq⟩ := h.q
  obtain ⟨Aq, cq, rfl, hRq, _, _⟩ := hq.o.rows
  have y1 : ∀ s : Ext w, s.w.cell? ⟨q, 1, none⟩ = some (.int .i64 (J.t : Nat)) := fun s => (hq.below s.h).blk.cell 1
  have y2 : ∀ s : Ext w, s.w.cell? ⟨q, 2, none⟩ = some (.slice Aq J.im.length cq) := fun s => (hq.below s.h).blk.cell 2
  have hv2 := fun s : Ext w => conv_rows (hRq.below s.h) J.im.length cq rfl
  have htt : (((J.t : Nat) : Int) == ((J.t : Nat) : Int)) = true := by simp
  have HCV := Lib.hid (fun (W : World) (A : Option Addr) (n c : Nat) (hR : Rows u8L 1 W A J.im) (hn : J.im.length = n) => conv_rows hR n c hn)
  have hSS : ((str J.im).toList == (str J.im).toList) = true := by simp
  have hxx : (x == x) = true := by simp
  clear h hq hRq hx hl
  generalize J.im.length = nq at *
  generalize str J.im = Z at *
  generalize ((J.t : Nat) : Int) = T at *
  go_enter Try.func21, Try.ntmps21
  go_wp2
  refine wp_region_held (S := fun W => ∃ s : Ext w, W = s.w) (by kernel_rfl) ?_
  change wpAnyH _ _ _ _ _ _ _ _ (World.drew _)
  have hS : ∃ s : Ext w, w.drew = s.w := ⟨⟨_, (Below.refl _ _).drew⟩, rfl⟩
  generalize w.drew = W0 at *
  refine takeD (i := 0) (d := some 3) (v := ?_) rfl rfl (by kernel_rfl) (by decide +kernel) (by decide +kernel) (fun _ _ _ h => h) (Or.inl ⟨by first | kernel_rfl | rfl, ?_⟩) hS ?_
  rotate_left
  · intro w' hT; obtain ⟨s, rfl⟩ := hT; have p0 := z0 s; have p1 := z1 s; have p2 := z2 s; have p3 := z3 s; have g1 := y1 s; have g2 := y2 s; have cv := hv2 s; first | (go_simp; done) | (go_simp; with_reducible rfl)
  refine takeD (i := 1) (d := some 4) (v := ?_) rfl rfl (by kernel_rfl) (by decide +kernel) (by decide +kernel) (fun _ _ _ h => h) (Or.inl ⟨by first | kernel_rfl | rfl, ?_⟩) hS ?_
  rotate_left
  · intro w' hT; obtain ⟨s, rfl⟩ := hT; have p0 := z0 s; have p1 := z1 s; have p2 := z2 s; have p3 := z3 s; have g1 := y1 s; have g2 := y2 s; have cv := hv2 s; first | (go_simp; done) | (go_simp; with_reducible rfl)
  refine takeD (i := 2) (d := some 5) (v := ?_) rfl rfl (by kernel_rfl) (by decide +kernel) (by decide +kernel) (fun _ _ _ h => h) (Or.inl ⟨by first | kernel_rfl | rfl, ?_⟩) hS ?_
  rotate_left
  · intro w' hT; obtain ⟨s, rfl⟩ := hT; have p0 := z0 s; have p1 := z1 s; have p2 := z2 s; have p3 := z3 s; have g1 := y1 s; have g2 := y2 s; have cv := hv2 s; first | (go_simp; done) | (go_simp; with_reducible rfl)
  refine takeD (i := 3) (d := some 6) (v := ?_) rfl rfl (by kernel_rfl) (by decide +kernel) (by decide +kernel) (fun _ _ _ h => h) (Or.inl ⟨by first | kernel_rfl | rfl, ?_⟩) hS ?_
  rotate_left
  · intro w' hT; obtain ⟨s, rfl⟩ := hT; have p0 := z0 s; have p1 := z1 s; have p2 := z2 s; have p3 := z3 s; have g1 := y1 s; have g2 := y2 s; have cv := hv2 s; first | (go_simp; done) | (go_simp; with_reducible rfl)
  refine takeD (i := 5) (d := some 8) (v := ?_) rfl rfl (by kernel_rfl) (by decide +kernel) (by decide +kernel) (fun _ _ _ h => h) (Or.inl ⟨by first | kernel_rfl | rfl, ?_⟩) hS ?_
  rotate_left
  · intro w' hT; obtain ⟨s, rfl⟩ := hT; have p0 := z0 s; have p1 := z1 s; have p2 := z2 s; have p3 := z3 s; have g1 := y1 s; have g2 := y2 s; have cv := hv2 s; first | (go_simp; done) | (go_simp; with_reducible rfl)
  refine takeD (i := 6) (d := some 9) (v := ?_) rfl rfl (by kernel_rfl) (by decide +kernel) (by decide +kernel) (fun _ _ _ h => h) (Or.inl ⟨by first | kernel_rfl | rfl, ?_⟩) hS ?_
  rotate_left
  · intro w' hT; obtain ⟨s, rfl⟩ := hT; have p0 := z0 s; have p1 := z1 s; have p2 := z2 s; have p3 := z3 s; have g1 := y1 s; have g2 := y2 s; have cv := hv2 s; first | (go_simp; done) | (go_simp; with_reducible rfl)
  refine takeD (i := 7) (d := some 10) (v := ?_) rfl rfl (by kernel_rfl) (by decide +kernel) (by decide +kernel) (fun _ _ _ h => h) (Or.inl ⟨by first | kernel_rfl | rfl, ?_⟩) hS ?_
  rotate_left
  · intro w' hT; obtain ⟨s, rfl⟩ := hT; have p0 := z0 s; have p1 := z1 s; have p2 := z2 s; have p3 := z3 s; have g1 := y1 s; have g2 := y2 s; have cv := hv2 s; first | (go_simp; done) | (go_simp; with_reducible rfl)
  refine takeD (i := 8) (d := some 11) (v := ?_) rfl rfl (by kernel_rfl) (by decide +kernel) (by decide +kernel) (fun _ _ _ h => h) (Or.inl ⟨by first | kernel_rfl | rfl, ?_⟩) hS ?_
  rotate_left
  · intro w' hT; obtain ⟨s, rfl⟩ := hT; have p0 := z0 s; have p1 := z1 s; have p2 := z2 s; have p3 := z3 s; have g1 := y1 s; have g2 := y2 s; have cv := hv2 s; first | (go_simp; done) | (go_simp; with_reducible rfl)
  refine takeD (i := 9) (d := some 12) (v := ?_) rfl rfl (by kernel_rfl) (by decide +kernel) (by decide +kernel) (fun _ _ _ h => h) (Or.inl ⟨by first | kernel_rfl | rfl, ?_⟩) hS ?_
  rotate_left
  · intro w' hT; obtain ⟨s, rfl⟩ := hT; have p0 := z0 s; have p1 := z1 s; have p2 := z2 s; have p3 := z3 s; have g1 := y1 s; have g2 := y2 s; have cv := hv2 s; first | (go_simp; done) | (go_simp; with_reducible rfl)
  refine takeD (i := 10) (d := some 13) (v := ?_) rfl rfl (by kernel_rfl) (by decide +kernel) (by decide +kernel) (fun _ _ _ h => h) (Or.inl ⟨by first | kernel_rfl | rfl, ?_⟩) hS ?_
  rotate_left
  · intro w' hT; obtain ⟨s, rfl⟩ := hT; have p0 := z0 s; have p1 := z1 s; have p2 := z2 s; have p3 := z3 s; have g1 := y1 s; have g2 := y2 s; have cv := hv2 s; first | (go_simp; done) | (go_simp; with_reducible rfl)
  refine takeD (i := 11) (d := some 14) (v := ?_) rfl rfl (by kernel_rfl) (by decide +kernel) (by decide +kernel) (fun _ _ _ h => h) (Or.inl ⟨by first | kernel_rfl | rfl, ?_⟩) hS ?_
  rotate_left
  · intro w' hT; obtain ⟨s, rfl⟩ := hT; have p0 := z0 s; have p1 := z1 s; have p2 := z2 s; have p3 := z3 s; have g1 := y1 s; have g2 := y2 s; have cv := hv2 s; first | (go_simp; done) | (go_simp; with_reducible rfl)
  refine wpAnyH_all (rs := [4]) (by decide +kernel) (by simp) ?_
  intro i0 hi0
  have hi1 := List.mem_singleton.1 hi0
  clear hi0
  subst hi1
  obtain ⟨s0, rfl⟩ := hS
  refine wpOp_go rfl (by kernel_rfl) (fun K hK => ?_)
  go_simp
  refine (HT.out s0).mono ?_
  rintro e w1 ⟨rfl, rfl⟩
  have hS : ∃ s : Ext w, s0.w = s.w := ⟨s0, rfl⟩
  refine hK _ _ ⟨hS, ?_⟩
  clear hK K
  refine takeD (i := 12) (d := some 15) (v := ?_) rfl rfl (by kernel_rfl) (by decide +kernel) (by decide +kernel) (fun _ _ _ h => h) (Or.inl ⟨by first | kernel_rfl | rfl, ?_⟩) hS ?_
  rotate_left
  · intro w' hT; obtain ⟨s, rfl⟩ := hT; have p0 := z0 s; have p1 := z1 s; have p2 := z2 s; have p3 := z3 s; have g1 := y1 s; have g2 := y2 s; have cv := hv2 s; first | (go_simp; done) | (go_simp; with_reducible rfl)
  refine takeD (i := 13) (d := some 16) (v := ?_) rfl rfl (by kernel_rfl) (by decide +kernel) (by decide +kernel) (fun _ _ _ h => h) (Or.inl ⟨by first | kernel_rfl | rfl, ?_⟩) hS ?_
  rotate_left
  · intro w' hT; obtain ⟨s, rfl⟩ := hT; have p0 := z0 s; have p1 := z1 s; have p2 := z2 s; have p3 := z3 s; have g1 := y1 s; have g2 := y2 s; have cv := hv2 s; first | (go_simp; done) | (go_simp; with_reducible rfl)
  refine takeD (i := 14) (d := some 17) (v := ?_) rfl rfl (by kernel_rfl) (by decide +kernel) (by decide +kernel) (fun _ _ _ h => h) (Or.inl ⟨by first | kernel_rfl | rfl, ?_⟩) hS ?_
  rotate_left
  · intro w' hT; obtain ⟨s, rfl⟩ := hT; have p0 := z0 s; have p1 := z1 s; have p2 := z2 s; have p3 := z3 s; have g1 := y1 s; have g2 := y2 s; have cv := hv2 s; first | (go_simp; done) | (go_simp; with_reducible rfl)
  refine takeD (i := 15) (d := some 18) (v := ?_) rfl rfl (by kernel_rfl) (by decide +kernel) (by decide +kernel) (fun _ _ _ h => h) (Or.inl ⟨by first | kernel_rfl | rfl, ?_⟩) hS ?_
  rotate_left
  · intro w' hT; obtain ⟨s, rfl⟩ := hT; have p0 := z0 s; have p1 := z1 s; have p2 := z2 s; have p3 := z3 s; have g1 := y1 s; have g2 := y2 s; have cv := hv2 s; first | (go_simp; done) | (go_simp; with_reducible rfl)
  refine takeD (i := 16) (d := some 19) (v := ?_) rfl rfl (by kernel_rfl) (by decide +kernel) (by decide +kernel) (fun _ _ _ h => h) (Or.inl ⟨by first | kernel_rfl | rfl, ?_⟩) hS ?_
  rotate_left
  · intro w' hT; obtain ⟨s, rfl⟩ := hT; have p0 := z0 s; have p1 := z1 s; have p2 := z2 s; have p3 := z3 s; have g1 := y1 s; have g2 := y2 s; have cv := hv2 s; first | (go_simp; done) | (go_simp; with_reducible rfl)
  refine takeD (i := 17) (d := some 20) (v := ?_) rfl rfl (by kernel_rfl) (by decide +kernel) (by decide +kernel) (fun _ _ _ h => h) (Or.inl ⟨by first | kernel_rfl | rfl, ?_⟩) hS ?_
  rotate_left
  · intro w' hT; obtain ⟨s, rfl⟩ := hT; have p0 := z0 s; have p1 := z1 s; have p2 := z2 s; have p3 := z3 s; have g1 := y1 s; have g2 := y2 s; have cv := hv2 s; first | (go_simp; done) | (go_simp; with_reducible rfl)
  refine takeD (i := 20) (d := some 23) (v := ?_) rfl rfl (by kernel_rfl) (by decide +kernel) (by decide +kernel) (fun _ _ _ h => h) (Or.inl ⟨by first | kernel_rfl | rfl, ?_⟩) hS ?_
  rotate_left
  · intro w' hT; obtain ⟨s, rfl⟩ := hT; have p0 := z0 s; have p1 := z1 s; have p2 := z2 s; have p3 := z3 s; have g1 := y1 s; have g2 := y2 s; have cv := hv2 s; first | (go_simp; done) | (go_simp; with_reducible rfl)
  refine takeD (i := 21) (d := some 24) (v := ?_) rfl rfl (by kernel_rfl) (by decide +kernel) (by decide +kernel) (fun _ _ _ h => h) (Or.inl ⟨by first | kernel_rfl | rfl, ?_⟩) hS ?_
  rotate_left
  · intro w' hT; obtain ⟨s, rfl⟩ := hT; have p0 := z0 s; have p1 := z1 s; have p2 := z2 s; have p3 := z3 s; have g1 := y1 s; have g2 := y2 s; have cv := hv2 s; first | (go_simp; done) | (go_simp; with_reducible rfl)
  refine takeD (i := 22) (d := some 25) (v := ?_) rfl rfl (by kernel_rfl) (by decide +kernel) (by decide +kernel) (fun _ _ _ h => h) (Or.inl ⟨by first | kernel_rfl | rfl, ?_⟩) hS ?_
  rotate_left
  · intro w' hT; obtain ⟨s, rfl⟩ := hT; have p0 := z0 s; have p1 := z1 s; have p2 := z2 s; have p3 := z3 s; have g1 := y1 s; have g2 := y2 s; have cv := hv2 s; first | (go_simp; done) | (go_simp; with_reducible rfl)
  refine takeD (i := 23) (d := some 26) (v := ?_) rfl rfl (by kernel_rfl) (by decide +kernel) (by decide +kernel) (fun _ _ _ h => h) (Or.inl ⟨by first | kernel_rfl | rfl, ?_⟩) hS ?_
  rotate_left
  · intro w' hT; obtain ⟨s, rfl⟩ := hT; have p0 := z0 s; have p1 := z1 s; have p2 := z2 s; have p3 := z3 s; have g1 := y1 s; have g2 := y2 s; have cv := hv2 s; first | (go_simp; done) | (go_simp; with_reducible rfl)
  refine takeD (i := 24) (d := some 27) (v := ?_) rfl rfl (by kernel_rfl) (by decide +kernel) (by decide +kernel) (fun _ _ _ h => h) (Or.inl ⟨by first | kernel_rfl | rfl, ?_⟩) hS ?_
  rotate_left
  · intro w' hT; obtain ⟨s, rfl⟩ := hT; have p0 := z0 s; have p1 := z1 s; have p2 := z2 s; have p3 := z3 s; have g1 := y1 s; have g2 := y2 s; have cv := hv2 s; first | (go_simp; done) | (go_simp; with_reducible rfl)
  refine takeD (i := 25) (d := some 28) (v := ?_) rfl rfl (by kernel_rfl) (by decide +kernel) (by decide +kernel) (fun _ _ _ h => h) (Or.inl ⟨by first | kernel_rfl | rfl, ?_⟩) hS ?_
  rotate_left
  · intro w' hT; obtain ⟨s, rfl⟩ := hT; have p0 := z0 s; have p1 := z1 s; have p2 := z2 s; have p3 := z3 s; have g1 := y1 s; have g2 := y2 s; have cv := hv2 s; first | (go_simp; done) | (go_simp; with_reducible rfl)
  refine takeD (i := 26) (d := some 29) (v := ?_) rfl rfl (by kernel_rfl) (by decide +kernel) (by decide +kernel) (fun _ _ _ h => h) (Or.inl ⟨by first | kernel_rfl | rfl, ?_⟩) hS ?_
  rotate_left
  · intro w' hT; obtain ⟨s, rfl⟩ := hT; have p0 := z0 s; have p1 := z1 s; have p2 := z2 s; have p3 := z3 s; have g1 := y1 s; have g2 := y2 s; have cv := hv2 s; first | (go_simp; done) | (go_simp; with_reducible rfl)
  refine takeD (i := 27) (d := some 30) (v := ?_) rfl rfl (by kernel_rfl) (by decide +kernel) (by decide +kernel) (fun _ _ _ h => h) (Or.inl ⟨by first | kernel_rfl | rfl, ?_⟩) hS ?_
  rotate_left
  · intro w' hT; obtain ⟨s, rfl⟩ := hT; have p0 := z0 s; have p1 := z1 s; have p2 := z2 s; have p3 := z3 s; have g1 := y1 s; have g2 := y2 s; have cv := hv2 s; first | (go_simp; done) | (go_simp; with_reducible rfl)
  refine actNorm (fun a' ha => ?_)
  simp [go_sem] at ha
  subst ha
  refine wpAnyH_all (rs := [18]) (by decide +kernel) (by simp) ?_
  intro i0 hi0
  have hi1 := List.mem_singleton.1 hi0
  clear hi0
  subst hi1
  refine wpOp_go rfl (by kernel_rfl) (fun K hK => ?_)
  go_simp
  refine (HI.out s0).mono ?_
  rintro e w2 ⟨A2, n2, c2, rfl, hn2, hR2, hb2⟩
  have hB2 : Below w.heap.size w w2 := s0.h.trans (hb2.mono s0.h.size)
  have hS2 : ∃ s : Ext w, w2 = s.w := ⟨⟨w2, hB2⟩, rfl⟩
  refine hK _ _ ⟨hS2, ?_⟩
  clear hK K hS
  have hv1 := HCV.out w2 A2 n2 c2 hR2 hn2
  clear hR2 hb2
  refine wpAnyH_all (rs := [19]) (by decide +kernel) (by simp) ?_
  intro i0 hi0
  have hi1 := List.mem_singleton.1 hi0
  clear hi0
  subst hi1
  refine wpOp_go rfl (by kernel_rfl) (fun K hK => ?_)
  go_simp
  refine hK _ _ ⟨hS2, ?_⟩
  clear hK K hv1
  refine takeD (i := 28) (d := some 31) (v := ?_) rfl rfl (by kernel_rfl) (by decide +kernel) (by decide +kernel) (fun _ _ _ h => h) (Or.inl ⟨by first | kernel_rfl | rfl, ?_⟩) hS2 ?_
  rotate_left
  · intro w' hT; obtain ⟨s, rfl⟩ := hT; have p0 := z0 s; have p1 := z1 s; have p2 := z2 s; have p3 := z3 s; have g1 := y1 s; have g2 := y2 s; have cv := hv2 s; first | (go_simp; done) | (go_simp; with_reducible rfl)
  refine takeD (i := 29) (d := some 32) (v := ?_) rfl rfl (by kernel_rfl) (by decide +kernel) (by decide +kernel) (fun _ _ _ h => h) (Or.inl ⟨by first | kernel_rfl | rfl, ?_⟩) hS2 ?_
  rotate_left
  · intro w' hT; obtain ⟨s, rfl⟩ := hT; have p0 := z0 s; have p1 := z1 s; have p2 := z2 s; have p3 := z3 s; have g1 := y1 s; have g2 := y2 s; have cv := hv2 s; first | (go_simp; done) | (go_simp; with_reducible rfl)
  refine takeD (i := 30) (d := some 33) (v := ?_) rfl rfl (by kernel_rfl) (by decide +kernel) (by decide +kernel) (fun _ _ _ h => h) (Or.inl ⟨by first | kernel_rfl | rfl, ?_⟩) hS2 ?_
  rotate_left
  · intro w' hT; obtain ⟨s, rfl⟩ := hT; have p0 := z0 s; have p1 := z1 s; have p2 := z2 s; have p3 := z3 s; have g1 := y1 s; have g2 := y2 s; have cv := hv2 s; first | (go_simp; done) | (go_simp; with_reducible rfl)
  refine takeD (i := 31) (d := some 34) (v := ?_) rfl rfl (by kernel_rfl) (by decide +kernel) (by decide +kernel) (fun _ _ _ h => h) (Or.inl ⟨by first | kernel_rfl | rfl, ?_⟩) hS2 ?_
  rotate_left
  · intro w' hT; obtain ⟨s, rfl⟩ := hT; have p0 := z0 s; have p1 := z1 s; have p2 := z2 s; have p3 := z3 s; have g1 := y1 s; have g2 := y2 s; have cv := hv2 s; first | (go_simp; done) | (go_simp; with_reducible rfl)
  refine takeD (i := 32) (d := some 35) (v := ?_) rfl rfl (by kernel_rfl) (by decide +kernel) (by decide +kernel) (fun _ _ _ h => h) (Or.inl ⟨by first | kernel_rfl | rfl, ?_⟩) hS2 ?_
  rotate_left
  · intro w' hT; obtain ⟨s, rfl⟩ := hT; have p0 := z0 s; have p1 := z1 s; have p2 := z2 s; have p3 := z3 s; have g1 := y1 s; have g2 := y2 s; have cv := hv2 s; first | (go_simp; done) | (go_simp; with_reducible rfl)
  refine takeD (i := 33) (d := some 36) (v := ?_) rfl rfl (by kernel_rfl) (by decide +kernel) (by decide +kernel) (fun _ _ _ h => h) (Or.inl ⟨by first | kernel_rfl | rfl, ?_⟩) hS2 ?_
  rotate_left
  · intro w' hT; obtain ⟨s, rfl⟩ := hT; have p0 := z0 s; have p1 := z1 s; have p2 := z2 s; have p3 := z3 s; have g1 := y1 s; have g2 := y2 s; have cv := hv2 s; first | (go_simp; done) | (go_simp; with_reducible rfl)
  refine takeD (i := 34) (d := some 37) (v := ?_) rfl rfl (by kernel_rfl) (by decide +kernel) (by decide +kernel) (fun _ _ _ h => h) (Or.inl ⟨by first | kernel_rfl | rfl, ?_⟩) hS2 ?_
  rotate_left
  · intro w' hT; obtain ⟨s, rfl⟩ := hT; have p0 := z0 s; have p1 := z1 s; have p2 := z2 s; have p3 := z3 s; have g1 := y1 s; have g2 := y2 s; have cv := hv2 s; first | (go_simp; done) | (go_simp; with_reducible rfl)
  refine takeD (i := 36) (d := some 39) (v := ?_) rfl rfl (by kernel_rfl) (by decide +kernel) (by decide +kernel) (fun _ _ _ h => h) (Or.inl ⟨by first | kernel_rfl | rfl, ?_⟩) hS2 ?_
  rotate_left
  · intro w' hT; obtain ⟨s, rfl⟩ := hT; have p0 := z0 s; have p1 := z1 s; have p2 := z2 s; have p3 := z3 s; have g1 := y1 s; have g2 := y2 s; have cv := hv2 s; first | (go_simp; done) | (go_simp; with_reducible rfl)
  refine takeD (i := 37) (d := some 40) (v := ?_) rfl rfl (by kernel_rfl) (by decide +kernel) (by decide +kernel) (fun _ _ _ h => h) (Or.inl ⟨by first | kernel_rfl | rfl, ?_⟩) hS2 ?_
  rotate_left
  · intro w' hT; obtain ⟨s, rfl⟩ := hT; have p0 := z0 s; have p1 := z1 s; have p2 := z2 s; have p3 := z3 s; have g1 := y1 s; have g2 := y2 s; have cv := hv2 s; first | (go_simp; done) | (go_simp; with_reducible rfl)
  refine takeD (i := 38) (d := some 41) (v := ?_) rfl rfl (by kernel_rfl) (by decide +kernel) (by decide +kernel) (fun _ _ _ h => h) (Or.inl ⟨by first | kernel_rfl | rfl, ?_⟩) hS2 ?_
  rotate_left
  · intro w' hT; obtain ⟨s, rfl⟩ := hT; have p0 := z0 s; have p1 := z1 s; have p2 := z2 s; have p3 := z3 s; have g1 := y1 s; have g2 := y2 s; have cv := hv2 s; first | (go_simp; done) | (go_simp; with_reducible rfl)
  refine takeD (i := 39) (d := some 42) (v := ?_) rfl rfl (by kernel_rfl) (by decide +kernel) (by decide +kernel) (fun _ _ _ h => h) (Or.inl ⟨by first | kernel_rfl | rfl, ?_⟩) hS2 ?_
  rotate_left
  · intro w' hT; obtain ⟨s, rfl⟩ := hT; have p0 := z0 s; have p1 := z1 s; have p2 := z2 s; have p3 := z3 s; have g1 := y1 s; have g2 := y2 s; have cv := hv2 s; first | (go_simp; done) | (go_simp; with_reducible rfl)
  refine actNorm (fun a' ha => ?_)
  simp [go_sem] at ha
  subst ha
  refine wpAnyH_all (rs := [35]) (by decide +kernel) (by simp) ?_
  intro i0 hi0
  have hi1 := List.mem_singleton.1 hi0
  clear hi0
  subst hi1
  obtain ⟨s2, rfl⟩ := hS2
  refine wpOp_go rfl (by kernel_rfl) (fun K hK => ?_)
  go_simp
  refine (HD.out s2).mono ?_
  rintro e w3 ⟨rfl, hb3⟩
  have hS3 : ∃ s : Ext w, w3 = s.w := ⟨⟨w3, s2.h.trans (hb3.mono s2.h.size)⟩, rfl⟩
  refine hK _ _ ⟨hS3, ?_⟩
  clear hK K
  refine wpAnyH_all (rs := [40]) (by decide +kernel) (by simp) ?_
  intro i0 hi0
  have hi1 := List.mem_singleton.1 hi0
  clear hi0
  subst hi1
  obtain ⟨s3, rfl⟩ := hS3
  refine wpOp_go rfl (by kernel_rfl) (fun K hK => ?_)
  go_simp
  refine (HQ.out s3).mono ?_
  rintro e w4 ⟨rfl, hb4⟩
  have hB4 := s3.h.trans (hb4.mono s3.h.size)
  have hS4 : ∃ s : Ext w, w4 = s.w := ⟨⟨w4, hB4⟩, rfl⟩
  refine hK _ _ ⟨hS4, ?_⟩
  clear hK K
  refine takeD (i := 41) (d := some 44) (v := ?_) rfl rfl (by kernel_rfl) (by decide +kernel) (by decide +kernel) (fun _ _ _ h => h) (Or.inl ⟨by first | kernel_rfl | rfl, ?_⟩) hS4 ?_
  rotate_left
  · intro w' hT; obtain ⟨s, rfl⟩ := hT; have p0 := z0 s; have p1 := z1 s; have p2 := z2 s; have p3 := z3 s; have g1 := y1 s; have g2 := y2 s; have cv := hv2 s; first | (go_simp; done) | (go_simp; with_reducible rfl)
  refine takeD (i := 42) (d := some 45) (v := ?_) rfl rfl (by kernel_rfl) (by decide +kernel) (by decide +kernel) (fun _ _ _ h => h) (Or.inl ⟨by first | kernel_rfl | rfl, ?_⟩) hS4 ?_
  rotate_left
  · intro w' hT; obtain ⟨s, rfl⟩ := hT; have p0 := z0 s; have p1 := z1 s; have p2 := z2 s; have p3 := z3 s; have g1 := y1 s; have g2 := y2 s; have cv := hv2 s; first | (go_simp; done) | (go_simp; with_reducible rfl)
  refine takeD (i := 43) (d := some 2) (v := ?_) rfl rfl (by kernel_rfl) (by decide +kernel) (by decide +kernel) (fun _ _ _ h => h) (Or.inl ⟨by first | kernel_rfl | rfl, ?_⟩) hS4 ?_
  rotate_left
  · intro w' hT; obtain ⟨s, rfl⟩ := hT; have p0 := z0 s; have p1 := z1 s; have p2 := z2 s; have p3 := z3 s; have g1 := y1 s; have g2 := y2 s; have cv := hv2 s; first | (go_simp; done) | (go_simp; with_reducible rfl)
  refine actNorm (fun a' ha => ?_)
  simp [go_sem] at ha
  subst ha
  refine wpAnyH_done (by decide +kernel) ?_ _
  clear z0 z1 z2 z3 y1 y2 hv2
  go_wp2
  go_ret
  exact ⟨rfl, hB4⟩
end Go.Proofs.Ytalfffkcmddakab
