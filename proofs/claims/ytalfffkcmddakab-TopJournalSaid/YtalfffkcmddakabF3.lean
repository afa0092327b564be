/- Calls, steps, cuts as values; loads of whole ones. -/
import Derived.Test.YtalfffkcmddakabY1
import Derived.Test.YtalfffkcmddakabP4
namespace Go.Proofs.Ytalfffkcmddakab
open Go.RowKit Go.Shelf

abbrev acA (x : Pl.Ac) : Array Value := #[.int .u8 x.k, .int .i64 x.s, .int .i64 x.n, .int .i64 x.kp, .slice x.a x.b.length x.c]
abbrev acL (x : Pl.Ac) : List Value := [.int .u8 x.k, .int .i64 x.s, .int .i64 x.n, .int .i64 x.kp, .slice x.a x.b.length x.c]
abbrev gsA (x : Pl.Gs) : Array Value := #[.int .u8 x.x.k, .int .i64 x.x.s, .int .i64 x.x.n, .int .i64 x.x.kp, .slice x.x.a x.x.b.length x.x.c, .slice x.a x.im.length x.c]
abbrev gsL (x : Pl.Gs) : List Value := [.int .u8 x.x.k, .int .i64 x.x.s, .int .i64 x.x.n, .int .i64 x.x.kp, .slice x.x.a x.x.b.length x.x.c, .slice x.a x.im.length x.c]
abbrev ctA (x : Pl.Ct) : Array Value := #[.slice x.a x.im.length x.c, .int .u8 x.at_, .int .i64 x.kp]
abbrev ctL (x : Pl.Ct) : List Value := [.slice x.a x.im.length x.c, .int .u8 x.at_, .int .i64 x.kp]
theorem encAc : Enc acL 5 where
  pos := by decide
  len _ := rfl
  one x v hv := by simp [acL] at hv; rcases hv with rfl | rfl | rfl | rfl | rfl <;> rfl
theorem encGs : Enc gsL 6 where
  pos := by decide
  len _ := rfl
  one x v hv := by simp [gsL] at hv; rcases hv with rfl | rfl | rfl | rfl | rfl | rfl <;> rfl
theorem encCt : Enc ctL 3 where
  pos := by decide
  len _ := rfl
  one x v hv := by simp [ctL] at hv; rcases hv with rfl | rfl | rfl <;> rfl
theorem infoAc : (Try.prog.info? 31).map (·.size) = some 5 := by kernel_rfl
theorem infoGs : (Try.prog.info? 50).map (·.size) = some 6 := by kernel_rfl
theorem infoCt : (Try.prog.info? 58).map (·.size) = some 3 := by kernel_rfl
theorem ac_all (r : Pl.Ac) : (acA r).all (·.oneCell') = true := by simp [Value.oneCell']
theorem gs_all (r : Pl.Gs) : (gsA r).all (·.oneCell') = true := by simp [Value.oneCell']
theorem ct_all (r : Pl.Ct) : (ctA r).all (·.oneCell') = true := by simp [Value.oneCell']
theorem blk_setRow {w : World} {g : Nat} {t : TypeId} {cs cs' : Array Value} (b : Blk w g t cs) : Blk (w.setRow g cs') g t cs' := by
  unfold Blk at *
  simp [World.setRow, Array.getElem?_modify, b]
section
variable {ops : Array Oper} {rest : List Oper} {o : Oper} {a : Act} {w : World} {Q : Exit → Act → World → Prop} {b off : Nat}
theorem ldm_ac {s : Pl.Ac} (hr : w.rangeAt b off (acL s)) (hw : Region.wanted o (yielded ops a.tmps) = true) (x : Operand) (ho : o.op = .load 31 x)
    (hx : a.eval x = .pointer (some ⟨b, off, none⟩)) (h : wpList Try.prog ops Q rest (a.put o.dst (.agg (acA s))) w) : wpList Try.prog ops Q (o :: rest) a w :=
  wpList_wanted hw fun _ hK => wp_load_mid 31 x ho b off hx (acL s) _ hr Try.underlying31 rfl infoAc (hK _ _ h)
theorem ldm_gs {s : Pl.Gs} (hr : w.rangeAt b off (gsL s)) (hw : Region.wanted o (yielded ops a.tmps) = true) (x : Operand) (ho : o.op = .load 50 x)
    (hx : a.eval x = .pointer (some ⟨b, off, none⟩)) (h : wpList Try.prog ops Q rest (a.put o.dst (.agg (gsA s))) w) : wpList Try.prog ops Q (o :: rest) a w :=
  wpList_wanted hw fun _ hK => wp_load_mid 50 x ho b off hx (gsL s) _ hr Try.underlying50 rfl infoGs (hK _ _ h)
theorem ldm_ct {s : Pl.Ct} (hr : w.rangeAt b off (ctL s)) (hw : Region.wanted o (yielded ops a.tmps) = true) (x : Operand) (ho : o.op = .load 58 x)
    (hx : a.eval x = .pointer (some ⟨b, off, none⟩)) (h : wpList Try.prog ops Q rest (a.put o.dst (.agg (ctA s))) w) : wpList Try.prog ops Q (o :: rest) a w :=
  wpList_wanted hw fun _ hK => wp_load_mid 58 x ho b off hx (ctL s) _ hr Try.underlying58 rfl infoCt (hK _ _ h)
theorem st_ac {old : Array Value} {k : Pl.Ac} {g : Nat} {t : TypeId} (b : Blk w g t old) (hs : old.size = (acA k).size) (hgd : o.guard = none) (x y : Operand) (ho : o.op = .store 31 x y)
    (hx : a.eval x = .pointer (some ⟨g, 0, none⟩)) (hy : a.eval y = .agg (acA k))
    (h : ∀ w', Blk w' g t (acA k) → Only g w w' → wpList Try.prog ops Q rest (a.put o.dst undef) w') : wpList Try.prog ops Q (o :: rest) a w :=
  wpList_store_row hgd 31 x y ho g (acA k) hx hy t old b infoAc hs (ac_all k) (h _ (blk_setRow b) (Only.setRow g w (acA k)))
theorem st_gs {old : Array Value} {k : Pl.Gs} {g : Nat} {t : TypeId} (b : Blk w g t old) (hs : old.size = (gsA k).size) (hgd : o.guard = none) (x y : Operand) (ho : o.op = .store 50 x y)
    (hx : a.eval x = .pointer (some ⟨g, 0, none⟩)) (hy : a.eval y = .agg (gsA k))
    (h : ∀ w', Blk w' g t (gsA k) → Only g w w' → wpList Try.prog ops Q rest (a.put o.dst undef) w') : wpList Try.prog ops Q (o :: rest) a w :=
  wpList_store_row hgd 50 x y ho g (gsA k) hx hy t old b infoGs hs (gs_all k) (h _ (blk_setRow b) (Only.setRow g w (gsA k)))
theorem st_ct {old : Array Value} {k : Pl.Ct} {g : Nat} {t : TypeId} (b : Blk w g t old) (hs : old.size = (ctA k).size) (hgd : o.guard = none) (x y : Operand) (ho : o.op = .store 58 x y)
    (hx : a.eval x = .pointer (some ⟨g, 0, none⟩)) (hy : a.eval y = .agg (ctA k))
    (h : ∀ w', Blk w' g t (ctA k) → Only g w w' → wpList Try.prog ops Q rest (a.put o.dst undef) w') : wpList Try.prog ops Q (o :: rest) a w :=
  wpList_store_row hgd 58 x y ho g (ctA k) hx hy t old b infoCt hs (ct_all k) (h _ (blk_setRow b) (Only.setRow g w (ctA k)))
end
theorem Blk.only {g k : Nat} {w w' : World} {t : TypeId} {cs : Array Value} (b : Blk w k t cs) (h : Only g w w') (hk : k ≠ g) : Blk w' k t cs := (h.block k hk).trans b
/-- bytes in a cell that came in -/
structure InB (W : World) (a : Option Addr) (b : Pl.Bs) (c : Nat) : Prop where
  rows : Rows u8L 1 W a b
  cap : b.length ≤ c
  top : c ≤ maxLen
  nil : a = none → c = 0
theorem InB.below {W W' : World} {a : Option Addr} {b : Pl.Bs} {c : Nat} (h : InB W a b c) (hb : Below W.heap.size W W') : InB W' a b c := ⟨h.rows.below hb, h.cap, h.top, h.nil⟩
structure AcIn (W : World) (x : Pl.Ac) : Prop where
  b : InB W x.a x.b x.c
  k0 : 0 ≤ x.k
  k1 : x.k ≤ 255
  n : x.n.toNat ≤ maxLen
structure GsIn (W : World) (x : Pl.Gs) : Prop where
  ac : AcIn W x.x
  im : InB W x.a x.im x.c
structure CtIn (W : World) (x : Pl.Ct) : Prop where
  im : InB W x.a x.im x.c
  k0 : 0 ≤ x.at_
  k1 : x.at_ ≤ 255
theorem AcIn.below {W W' : World} {x : Pl.Ac} (h : AcIn W x) (hb : Below W.heap.size W W') : AcIn W' x := ⟨h.b.below hb, h.k0, h.k1, h.n⟩
theorem GsIn.below {W W' : World} {x : Pl.Gs} (h : GsIn W x) (hb : Below W.heap.size W W') : GsIn W' x := ⟨h.ac.below hb, h.im.below hb⟩
theorem CtIn.below {W W' : World} {x : Pl.Ct} (h : CtIn W x) (hb : Below W.heap.size W W') : CtIn W' x := ⟨h.im.below hb, h.k0, h.k1⟩
/-- a list of such that came in -/
structure LsIn {α : Type} (enc : α → List Value) (k : Nat) (ok : World → α → Prop) (W : World) (A : Option Addr) (l : List α) (c : Nat) : Prop where
  rows : Rows enc k W A l
  cap : l.length ≤ c
  top : c ≤ maxLen
  each : ∀ y, y ∈ l → ok W y
end Go.Proofs.Ytalfffkcmddakab
