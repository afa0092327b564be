/- Merged: X1 X2 X3 X4 X5. -/
import Derived.Test.YtbdnocijhbkclaaGreatDoorW4
import Derived.Test.YtbdnocijhbkclaaGreatDoorPB
import Derived.Test.YtbdnocijhbkclaaGreatDoorWQ
/- A map from things of lines to places. -/
namespace Go.Proofs.YtbdnocijhbkclaaGreatDoor
open Go.RowKit Go.Shelf

/-- how a value is read: as itself -/
def itself (v : Value) : Option (DataW Value × List MemPlace) := some (.held v, [])
theorem keyedLn : Go.Maps.Keyed Tryz.prog 45 := Go.Maps.Keyed.of_law lawLn
/-- a thing as a value, and as a key -/
abbrev thV (m : ByteArray) (c s : Int) : Value := .agg #[.string m, .int .i64 c, .int .i64 s, .int .i64 0]
abbrev thK (m : ByteArray) (c s : Int) : Lit := .string (keyBytes [.string m.data.toList, .int .i64 c, .int .i64 s, .int .i64 0])
theorem thKey {m : ByteArray} {c s : Int} (hm : m.size ≤ maxLen) (hc : (Lit.int .i64 c).wf = true) (hs : (Lit.int .i64 s).wf = true) : keyOf Tryz.prog 45 (thV m c s) = some (thK m c s) :=
  lnKey hm hc hs (by decide)
theorem zeroInt (w : World) : (zeroValue 3).run Tryz.prog w = .ok (.int .i64 0) w := by kernel_rfl
/-- block b is a map from things to places, of at most n entries -/
def MapL (W : World) (b n : Nat) (f : ByteArray → Int → Int → Option Nat) : Prop :=
  ∃ D : DataW Value, W.ownsMap Tryz.prog 45 itself b n D ∧ ∀ (m : ByteArray) (c s : Int), m.size ≤ maxLen → (Lit.int .i64 c).wf = true → (Lit.int .i64 s).wf = true →
    D.atKey (thK m c s) (.held (.int .i64 0)) = .held (.int .i64 ((f m c s).getD 0 : Nat)) ∧ Go.Maps.has D (thK m c s) = (f m c s).isSome
section
variable {W W' : World} {b n : Nat} {f : ByteArray → Int → Int → Option Nat}
theorem MapL.kept {row : Option Nat} (h : MapL W b n f) (hg : W.grownBy W' row) (hne : some b ≠ row) : MapL W' b n f := by
  obtain ⟨D, h1, h2⟩ := h
  exact ⟨D, h1.kept hg hne, h2⟩
theorem MapL.below (h : MapL W b n f) (hb : Below W.heap.size W W') : MapL W' b n f := h.kept (grown_none hb) (by simp)
theorem MapL.lt (h : MapL W b n f) : b < W.heap.size := by
  obtain ⟨D, h1, h2⟩ := h
  exact h1.lt
theorem MapL.drew (h : MapL W b n f) : MapL W.drew b n f := h
theorem MapL.made (W : World) : MapL (W.alloc (.map #[] 0)) W.heap.size 0 (fun _ _ _ => none) := ⟨_, World.ownsMap_made W _ _ _, fun _ _ _ _ _ _ => ⟨rfl, rfl⟩⟩
theorem MapL.mono {n' : Nat} (h : MapL W b n f) (hm : n ≤ n') : MapL W b n' f := by
  obtain ⟨D, h1, h2⟩ := h
  exact ⟨D, h1.mono hm, h2⟩
end
end Go.Proofs.YtbdnocijhbkclaaGreatDoor
/- merged, of the program. -/
namespace Go.Proofs.YtbdnocijhbkclaaGreatDoor
open Go.RowKit Go.Shelf

theorem infoLn5 : (Tryz.prog.info? 45).map (fun i => (i.zero, i.size, i.bytes)) = some (some (.agg #[.string ⟨#[]⟩, .int .i64 0, .int .i64 0, .int .i64 0]), 4, 40) := by kernel_rfl
/-- a count that is set in a list -/
theorem flt_cnt {acc : List Pl.Ln} {p : Nat} (hp : p < acc.length) {y : Pl.Ln} {c : Int} (hy : acc[p] = y) : (flt lnL acc).set (p * 4 + 3) (.int .i64 c) = flt lnL (acc.set p ⟨y.md, y.col, y.siz, c⟩) := by
  subst hy
  apply List.ext_getElem?
  intro t
  by_cases ht : t < acc.length * 4
  · have h1 : t / 4 < acc.length := by omega
    have h2 : t % 4 < 4 := Nat.mod_lt _ (by decide)
    have h3 : t / 4 * 4 + t % 4 = t := by omega
    have e1 := flt_get encLn (acc.set p ⟨acc[p].md, acc[p].col, acc[p].siz, c⟩) (t / 4) (t % 4) (by rw [List.length_set]; exact h1) h2
    have e2 := flt_get encLn acc (t / 4) (t % 4) h1 h2
    rw [h3] at e1 e2
    rw [e1, List.getElem?_set]
    by_cases h4 : p = t / 4
    · subst h4
      rw [List.getElem_set_self]
      by_cases h5 : t % 4 = 3
      · rw [if_pos (by omega), if_pos (by rw [flt_len encLn]; have := ht; omega), h5]
        rfl
      · rw [if_neg (by omega), e2]
        have h6 : t % 4 = 0 ∨ t % 4 = 1 ∨ t % 4 = 2 := by omega
        rcases h6 with h6 | h6 | h6 <;> rw [h6] <;> rfl
    · rw [if_neg (by omega), e2, List.getElem_set_ne h4]
  · rw [List.getElem?_eq_none (by rw [List.length_set, flt_len encLn]; omega), List.getElem?_eq_none (by rw [flt_len encLn, List.length_set]; omega)]
theorem own_cntset {W : World} {B g n c p : Nat} {acc : List Pl.Ln} (h : W.ownsRow B 45 4 (.slice (some ⟨g, 0, none⟩) n c) n (flt lnL acc)) (hp : p < acc.length) {y : Pl.Ln} {z : Int} (hy : acc[p] = y) :
    (W.setCell ⟨g, p * 4 + 3, none⟩ (.int .i64 z)).ownsRow B 45 4 (.slice (some ⟨g, 0, none⟩) n c) n (flt lnL (acc.set p ⟨y.md, y.col, y.siz, z⟩)) := by
  rw [← flt_cnt hp hy]
  exact (h.stored _ _).1
theorem wf_small {x : Int} (h0 : 1 ≤ x) (h1 : x ≤ 1000000000) : (Lit.int .i64 x).wf = true := WalkArith.wf_i64 (by omega)
theorem vl_facts {x : Pl.Ln} (h : Pl.Vl x) : x.md.size ≤ maxLen ∧ (Lit.int .i64 x.col).wf = true ∧ (Lit.int .i64 x.siz).wf = true := by
  refine ⟨?_, wf_small h.c0 (by have := h.c1; omega), wf_small h.s0 h.s1⟩
  have := h.md
  rw [wdB_eq, Bool.and_eq_true, Pl.inB_true] at this
  unfold maxLen
  omega

end Go.Proofs.YtbdnocijhbkclaaGreatDoor
/- Merge, of the program. -/
namespace Go.Proofs.YtbdnocijhbkclaaGreatDoor
open Go.RowKit Go.Shelf

/-- the form that is none -/
abbrev fm0 : Pl.Fm := ⟨⟨#[]⟩, 0, ⟨#[]⟩, [], none, 0⟩
theorem fmIn0 (w : World) : FmIn w fm0 := ⟨Rows.nil _ _, Nat.le_refl _, Nat.zero_le _, fun y hy => (by cases hy), Nat.zero_le _, Nat.zero_le _⟩
theorem mgF_no {f : Pl.Fm} (h : Pl.mgE f ≠ 0) (A : Option Addr) (k : Nat) : Pl.mgF f A k = fm0 := if_neg h
theorem fm_all (r : Pl.Fm) : (fmA r).all (·.oneCell') = true := by simp [Value.oneCell']
theorem st_fm {ops : Array Oper} {rest : List Oper} {o : Oper} {a : Act} {w : World} {Q : Exit → Act → World → Prop} {old : Array Value} {k : Pl.Fm} {g : Nat} {t : TypeId} (b : Blk w g t old) (hs : old.size = (fmA k).size) (hgd : o.guard = none) (x y : Operand) (ho : o.op = .store 24 x y)
    (hx : a.eval x = .pointer (some ⟨g, 0, none⟩)) (hy : a.eval y = .agg (fmA k))
    (h : ∀ w', Blk w' g t (fmA k) → Only g w w' → wpList Tryz.prog ops Q rest (a.put o.dst undef) w') : wpList Tryz.prog ops Q (o :: rest) a w :=
  wpList_store_row hgd 24 x y ho g (fmA k) hx hy t old b infoFm hs (fm_all k) (h _ (blk_setRow b) (Only.setRow g w (fmA k)))
/-- what Merge gives -/
def MgI (f : Pl.Fm) (w : World) (e : Ending) (w' : World) : Prop := ∃ A c, e = .returned (.tuple #[.agg (fmA (Pl.mgF f A c)), .int .i64 (Pl.mgE f)]) ∧ FmIn w' (Pl.mgF f A c) ∧ Below w.heap.size w w'
theorem mg_no {f : Pl.Fm} {E : Int} (h : Pl.mgE f = E) (hE : E ≠ 0) (w w' : World) (hb : Below w.heap.size w w') : MgI f w (.returned (.tuple #[.agg (fmA fm0), .int .i64 E])) w' :=
  ⟨none, 0, by rw [mgF_no (by rw [h]; exact hE), h], by rw [mgF_no (by rw [h]; exact hE)]; exact fmIn0 w', hb⟩
theorem mg_in {f : Pl.Fm} (hf : Pl.Vf f) (h0 : Pl.mgE f = 0) {A : Option Addr} {c : Nat} {w : World} (hF : f.cus.size ≤ maxLen ∧ f.cur.size ≤ maxLen) (hR : Rows lnL 4 w A (Pl.mgd f)) (hc : (Pl.mgd f).length ≤ c) (hm : c ≤ maxLen) : FmIn w (Pl.mgF f A c) := by
  rw [show Pl.mgF f A c = ⟨f.cus, f.d, f.cur, Pl.mgd f, A, c⟩ from if_pos h0]
  refine ⟨hR, hc, hm, fun y hy => ?_, hF.1, hF.2⟩
  obtain ⟨⟨x, hx, e, _⟩, _⟩ := Pl.mg_from (Pl.cnts hf) (Nat.le_refl _) y hy
  rw [e]
  exact (vl_facts (hf.ls x hx)).1

end Go.Proofs.YtbdnocijhbkclaaGreatDoor
/- Merge, of the document. -/
namespace Go.Proofs.YtbdnocijhbkclaaGreatDoor
open Go.RowKit Go.Shelf

theorem own_rangeAt {α : Type} {enc : α → List Value} {k : Nat} (E : Enc enc k) {w : World} {B g n c : Nat} {t : TypeId} {X : List α} (h : w.ownsRow B t k (.slice (some ⟨g, 0, none⟩) n c) n (flt enc X)) (hX : X.length = n) {i : Nat} (hi : i < n) : w.rangeAt g (i * k) (enc (X[i]'(by omega))) := fun j v hj => by
  have hjk : j < k := by
    rcases Nat.lt_or_ge j k with e | e
    · exact e
    · rw [List.getElem?_eq_none (by rw [E.len]; exact e)] at hj; cases hj
  have h1 : (i + 1) * k ≤ n * k := Nat.mul_le_mul_right k hi
  rw [Nat.add_mul] at h1
  rw [h.cellAt (i * k + j) (by omega), flt_get E X i j (by omega) hjk]
  exact hj
theorem own_slice {w : World} {B k n : Nat} {t : TypeId} {v : Value} {xs : List Value} (h : w.ownsRow B t k v n xs) : ∃ A c, v = .slice A n c := by
  rcases h with ⟨_, ⟨h, h0⟩ | ⟨g, cap, cur, h, _⟩⟩
  · exact ⟨none, 0, by rw [h, h0]⟩
  · exact ⟨_, _, h⟩
theorem and3_same {a b c d : Bool} {y x : Pl.Ln} {P : Prop} (h1 : (y.md.toList == x.md.toList) = a) (h2 : (y.col == x.col) = b) (h3 : (y.siz == x.siz) = c) (hP : (y.md = x.md ∧ y.col = x.col ∧ y.siz = x.siz) ↔ P) (hd : (a && (b && c)) = d) : d = true ↔ P := by
  rw [← hP, ← hd, Bool.and_eq_true, Bool.and_eq_true, ← h1, ← h2, ← h3, bs_eq, decide_eq_true_iff, beq_iff_eq, beq_iff_eq]
end Go.Proofs.YtbdnocijhbkclaaGreatDoor
/- SameForm, of two forms that are the same. -/
namespace Go.Proofs.YtbdnocijhbkclaaGreatDoor
open Go.RowKit Go.Shelf

theorem ln_self (r : Pl.Ln) (w : World) : (Op.equalIn 10000 45 (.agg (lnA r)) (.agg (lnA r))).run Tryz.prog w = .ok true w := by
  have u3 := Tryz.underlying3
  have a3 := Tryz.isAgg3
  have q3 := Tryz.sizeOf3
  have u9 := Tryz.underlying9
  have a9 := Tryz.isAgg9
  have q9 := Tryz.sizeOf9
  rw [show (10000 : Nat) = 9999 + 1 from rfl]
  go_simp
theorem ext_range {w0 : World} (s : Ext w0) {b off : Nat} {cs : List Value} (h : w0.rangeAt b off cs) (hb : b < w0.heap.size) : s.w.rangeAt b off cs := rangeAt_below h hb s.h
theorem ln_cells {W : World} {b o : Nat} {r : Pl.Ln} (h : W.rangeAt b o (lnL r)) : W.cell? ⟨b, o, none⟩ = some (.string r.md) ∧ W.cell? ⟨b, o + 1, none⟩ = some (.int .i64 r.col) ∧ W.cell? ⟨b, o + 2, none⟩ = some (.int .i64 r.siz) ∧ W.cell? ⟨b, o + 3, none⟩ = some (.int .i64 r.cnt) :=
  ⟨h 0 _ rfl, h 1 _ rfl, h 2 _ rfl, h 3 _ rfl⟩
set_option maxRecDepth 100000 in
set_option maxHeartbeats 8000000 in
theorem sameform_b (cus : ByteArray) (d : Int) (cur : ByteArray) (ls : List Pl.Ln) (A B : Option Addr) (c e n : Nat) (hn : ls.length = n) (w : World) (hF : FmIn w ⟨cus, d, cur, ls, A, c⟩) (hG : FmIn w ⟨cus, d, cur, ls, B, e⟩) :
    Calls Tryz.prog 10 #[.agg #[.string cus, .int .i64 d, .string cur, .slice A n c], .agg #[.string cus, .int .i64 d, .string cur, .slice B n e]] w fun e w' => e = .returned (.bool true) ∧ Below w.heap.size w w' := by
  have hB := ((Below.refl w.heap.size w).alloc (Nat.le_refl _) (.cells #[.string cus, .int .i64 d, .string cur, .slice A n c] 24)).alloc (by simp) (.cells #[.string cus, .int .i64 d, .string cur, .slice B n e] 24)
  have bF := (Blk.new w 24 #[.string cus, .int .i64 d, .string cur, .slice A n c]).alloc (.cells #[.string cus, .int .i64 d, .string cur, .slice B n e] 24)
  have bG := Blk.new (w.alloc (.cells #[.string cus, .int .i64 d, .string cur, .slice A n c] 24)) 24 #[.string cus, .int .i64 d, .string cur, .slice B n e]
  simp only [World.size_alloc] at bG
  have n63 : n ≤ 9223372036854775807 := by rw [← hn]; exact max63 (Nat.le_trans hF.cap hF.top)
  have HA := Lib.hid (hF.rows.below hB)
  have HBB := Lib.hid (hG.rows.below hB)
  have HN := Lib.hid hn
  have HBF := Lib.hid bF
  have HBG := Lib.hid bG
  have hlF := bF.lt
  have hlG := bG.lt
  have x0 := bF.cell 0
  have x1 := bF.cell 1
  have x2 := bF.cell 2
  have x3 := bF.cell 3
  have y0 := bG.cell 0
  have y1 := bG.cell 1
  have y2 := bG.cell 2
  have y3 := bG.cell 3
  have HB := Lib.hid hB
  clear hF hG hn bF bG hB
  generalize hW0 : (w.alloc (.cells #[.string cus, .int .i64 d, .string cur, .slice A n c] 24)).alloc (.cells #[.string cus, .int .i64 d, .string cur, .slice B n e] 24) = W0 at *
  go_enter Tryz.func10, Tryz.ntmps10
  go_wp2
  clear x0 x1 x2 x3 y0 y1 y2 y3
  go_loopw [5] (fun i wr => ∃ k : Nat, k ≤ n ∧ i = .int .i64 k ∧ Below W0.heap.size W0 wr) (fun i _ => n - (intOf i).toNat)
  case atStart => exact ⟨0, Nat.zero_le _, rfl, Below.refl _ _⟩
  case round =>
    obtain ⟨k, hk, rfl, hW⟩ := hrel
    obtain ⟨wo, rfl⟩ : ∃ wo, wo = wr := ⟨_, rfl⟩
    have bF := HBF.out.below hW hlF
    have bG := HBG.out.below hW hlG
    have p3 := bF.cell 3
    have hlFo := bF.lt
    have hlGo := bG.lt
    by_cases hlt : k < n
    · have hltI : (k : Int) < (n : Int) := by omega
      have hkx : k < ls.length := by rw [HN.out]; exact hlt
      obtain ⟨ba, oa, rfl, hba, hca⟩ := HA.out.open (by show 0 < ls.length; omega)
      obtain ⟨bb, ob, rfl, hbb, hcb⟩ := HBB.out.open (by show 0 < ls.length; omega)
      have rx := row_at hba hca hW hkx
      have ry := row_at hbb hcb hW hkx
      have hbx : ba < wo.heap.size := Nat.lt_of_lt_of_le hba hW.size
      have hby : bb < wo.heap.size := Nat.lt_of_lt_of_le hbb hW.size
      clear hca hcb
      have rx : wo.rangeAt ba (oa + k * 4) (lnL ls[k]) := rx
      have ry : wo.rangeAt bb (ob + k * 4) (lnL ls[k]) := ry
      generalize ls[k] = r at *
      have f3 := fun s : Ext wo => (bF.below s.h hlFo).cell 3
      have g3 := fun s : Ext wo => (bG.below s.h hlGo).cell 3
      have a0 := fun s : Ext wo => (ln_cells (ext_range s rx hbx)).1
      have a1 := fun s : Ext wo => (ln_cells (ext_range s rx hbx)).2.1
      have a2 := fun s : Ext wo => (ln_cells (ext_range s rx hbx)).2.2.1
      have a3 := fun s : Ext wo => (ln_cells (ext_range s rx hbx)).2.2.2
      have b0 := fun s : Ext wo => (ln_cells (ext_range s ry hby)).1
      have b1 := fun s : Ext wo => (ln_cells (ext_range s ry hby)).2.1
      have b2 := fun s : Ext wo => (ln_cells (ext_range s ry hby)).2.2.1
      have b3 := fun s : Ext wo => (ln_cells (ext_range s ry hby)).2.2.2
      have heq := fun w => ln_self r w
      clear rx ry bF bG
      go_wp2
      refine wp_region_ext (by kernel_rfl) (by kernel_rfl) ?_
      repeat (go_big_quiet_step (fail))
      refine wpQuiet_nil ?_
      rintro _ ⟨s, rfl⟩
      go_wp2
      go_roundw
      case rel => exact ⟨k + 1, by omega, by go_num, hW.trans (s.h.mono hW.size)⟩
      case measure => simp [intOf]; omega
    · obtain rfl : k = n := by omega
      have HBo := Lib.hid (HB.out.trans (hW.mono HB.out.size))
      clear bF bG
      go_wp2
      go_ret
      exact ⟨rfl, HBo.out⟩
end Go.Proofs.YtbdnocijhbkclaaGreatDoor
