/- read: the words of a text taken for a form. -/
import Derived.Test.YtbdnocijhbkclaaGreatDoorZA
import Derived.Test.YtbdnocijhbkclaaGreatDoorZ3
import Derived.Test.YtbdnocijhbkclaaGreatDoorPA
import Derived.Lib.SpaceU
namespace Go.Proofs.YtbdnocijhbkclaaGreatDoor
open Go.RowKit Go.Shelf Go.Sort Go.Lib
attribute [local go_sem] Oper.semAt_some

theorem blk_own {β : Type} (B : Nat) (t : TypeId) (f : β → Array Value) : Own (fun s W => Blk W B t (f s)) := fun s X Y row hs hg hrow =>
  (hg.block B hs.lt (fun e' => by obtain ⟨_, ho, hc⟩ := hrow B e'.symm; rw [show X.heap[B]? = _ from hs] at ho; cases ho; cases hc)).trans hs
/-- a struct with a list of its own -/
theorem formRow_own {β : Type} (n₀ B : Nat) (t e : TypeId) (size : Nat) (k : β → Nat) (f : β → List Value) (G : Value → Array Value) : Own (fun s W => ∃ v, Blk W B t (G v) ∧ W.ownsRow n₀ e size v (k s) (f s)) := by
  rintro s X Y row ⟨v, hv, hr⟩ hg hrow
  refine ⟨v, (hg.block B hv.lt (fun e' => ?_)).trans hv, hr.kept hg ?_⟩
  · obtain ⟨o, ho, hc⟩ := hrow B e'.symm
    rw [show X.heap[B]? = _ from hv] at ho
    cases ho; cases hc
  · rcases hr.2 with ⟨rfl, _⟩ | ⟨g, cap, cur, rfl, _, hgb, _⟩
    · exact .inl rfl
    · refine .inr fun e' => ?_
      obtain ⟨o, ho, hc⟩ := hrow g (by simpa [Value.ownBlock] using e'.symm)
      rw [hgb] at ho
      cases ho; cases hc
theorem keepsFrom_below {B : Nat} {W W' : World} (h : Below W.heap.size W W') : KeepsFrom B W W' :=
  ⟨h.size, fun k _ _ hk _ => (h.block k (Array.getElem?_eq_some_iff.1 hk).1).trans hk⟩
theorem keepsC_b {n₀ Bs : Nat} {w : World} (hn : n₀ ≤ w.heap.size) (hBs : Bs + 1 < w.heap.size) (W : World) (l : Nat) (o o' : Obj) (hl : w.heap.size ≤ l) (h : W.heap[l]? = some o) (h1 : o.isCells = false) (h2 : o.isWalk = false) : KeepsC n₀ Bs W (W.putObj l o') :=
  ⟨belowK_b hn W l o o' hl h h1 h2, World.putObj_heap_other (by omega), World.putObj_heap_other (by omega)⟩
theorem keepsFrom_own {B n₀ k n : Nat} {e : TypeId} {v : Value} {xs : List Value} {W W' : World} (hr : W.ownsRow n₀ e k v n xs) (hg : W.grownBy W' v.ownBlock) : KeepsFrom B W W' :=
  ⟨hg.size, fun j o _ hj ho => (hg.block j (Array.getElem?_eq_some_iff.1 hj).1 (fun e' => by
    rcases hr.2 with ⟨rfl, _⟩ | ⟨g, cap, cur, rfl, _, hgb, _⟩
    · cases e'
    · have : g = j := by simpa [Value.ownBlock] using e'.symm
      subst this
      rw [hgb] at hj
      cases hj; cases ho)).trans hj⟩
theorem keepsFrom_set {B g i : Nat} {t : TypeId} {cs : Array Value} {W : World} (h : Blk W g t cs) (u : Value) : KeepsFrom B W (W.setCell ⟨g, i, none⟩ u) :=
  ⟨by simp [World.setCell], fun j o _ hj ho => (Below.heap_setCell W ⟨g, i, none⟩ u j (fun e' => by
    have e2 : j = g := e'
    subst e2
    rw [show W.heap[j]? = _ from h] at hj
    cases hj; cases ho)).trans hj⟩
/-- where a round of read stands: the form with its lines, the two boxes of Chunk, and what lay before -/
structure RdF (w3 W : World) (gF Bs Bk : Nat) (hd : Value → Array Value) (sl v : Value) (q : Nat) (xs : List Value) (V : World) : Prop where
  f : Blk V gF 24 (hd v)
  o : V.ownsRow w3.heap.size 45 4 v q xs
  b1 : Blk V Bs 55 #[sl]
  b2 : Blk V (Bs + 1) 3 #[.int .i64 4]
  lo : Below w3.heap.size w3 V
  at' : Below w3.heap.size W V
  kf : KeepsFrom Bk W V
theorem RdF.below {w3 W V V' : World} {gF Bs Bk q : Nat} {hd : Value → Array Value} {sl v : Value} {xs : List Value} (h : RdF w3 W gF Bs Bk hd sl v q xs V) (hb : Below V.heap.size V V') : RdF w3 W gF Bs Bk hd sl v q xs V' :=
  ⟨h.f.below hb h.f.lt, own_keep h.o hb, h.b1.below hb h.b1.lt, h.b2.below hb h.b2.lt, h.lo.trans (hb.mono h.lo.size), h.at'.trans (hb.mono h.lo.size), h.kf.trans (keepsFrom_below hb)⟩
theorem RdF.alloc {w3 W V : World} {gF Bs Bk q : Nat} {hd : Value → Array Value} {sl v : Value} {xs : List Value} (h : RdF w3 W gF Bs Bk hd sl v q xs V) (o : Obj) : RdF w3 W gF Bs Bk hd sl v q xs (V.alloc o) :=
  h.below ((Below.refl _ _).alloc (Nat.le_refl _) o)
theorem tNB : (45 : TypeId) ≠ 55 := by decide
theorem tNI : (45 : TypeId) ≠ 3 := by decide
/-- one line appended, and the list stored again -/
theorem RdF.more {w3 W V V9 : World} {gF Bs Bk q : Nat} {cus cur : ByteArray} {dy : Int} {sl v v9 : Value} {xs ys : List Value} (h : RdF w3 W gF Bs Bk (fun v => #[.string cus, .int .i64 dy, .string cur, v]) sl v q xs V)
    (own9 : V9.ownsRow w3.heap.size 45 4 v9 (q + 1) ys) (hg : V.grownBy V9 v.ownBlock) (hgF : w3.heap.size ≤ gF) (hFB : gF ≠ Bs) (hFB2 : gF ≠ Bs + 1) :
    RdF w3 W gF Bs Bk (fun v => #[.string cus, .int .i64 dy, .string cur, v]) sl v9 (q + 1) ys (V9.setCell ⟨gF, 3, none⟩ v9) := by
  have hb9 : Below w3.heap.size V V9 := (Below.refl _ V).grown hg h.lo.size (fun s e => (h.o.lt s e).1)
  have f9 := h.f.grownBy hg (own_ne_blk h.o h.f tNF)
  have c1 := h.b1.grownBy hg (own_ne_blk h.o h.b1 tNB)
  have c2 := h.b2.grownBy hg (own_ne_blk h.o h.b2 tNI)
  have hO := (Only.setCell gF V9 3 v9).below hgF
  exact ⟨f9.set_ 3 v9, ownsRow_setCell_other own9 (a := ⟨gF, 3, none⟩) (own_ne_blk own9 f9 tNF) v9, c1.far (p := ⟨gF, 3, none⟩) (fun e => hFB e.symm) _, c2.far (p := ⟨gF, 3, none⟩) (fun e => hFB2 e.symm) _,
    (h.lo.trans hb9).trans hO, (h.at'.trans hb9).trans hO, (h.kf.trans (keepsFrom_own h.o hg)).trans (keepsFrom_set f9 v9)⟩
theorem strings_Clone (s : ByteArray) (w : World) (hs : s.size ≤ 100000) : Calls Tryz.prog 41 #[.string s] w fun e w' => e = .returned (.string s) ∧ Below w.heap.size w w' := by
  have H := Lib.hid (Tryz.stringslite_Clone s w (by omega))
  go_enter Tryz.func41, Tryz.ntmps41
  go_wp2_with fail
  refine H.out.mono ?_
  rintro e w1 ⟨rfl, hb⟩
  go_wp2_with fail
  go_ret
  exact ⟨rfl, hb⟩
/-- what read gives -/
def RdRes (s : ByteArray) (w : World) (e : Ending) (w' : World) : Prop := ∃ (g : Pl.Fm) (ok : Bool), e = .returned (.tuple #[.agg (fmA g), .bool ok]) ∧ Below w.heap.size w w' ∧ FmIn w' g ∧ w'.ownsRow w.heap.size 45 4 (.slice g.a g.ls.length g.k) g.ls.length (flt lnL g.ls) ∧
  ((ok = true ∧ ∃ rg, Pl.rdF Pl.nuP (Lib.fieldsD (Pl.byt s)) = some rg ∧ g = Pl.fmR rg g.a g.k) ∨ (ok = false ∧ g = fm0 ∧ ∀ f : Pl.Fm, Pl.Vf f → Pl.txt f ≠ Pl.byt s))
theorem RdRes.no {s : ByteArray} {w w' : World} (hb : Below w.heap.size w w') (h : ∀ f' : Pl.Fm, Pl.Vf f' → Pl.txt f' ≠ Pl.byt s) : RdRes s w (.returned (.tuple #[.agg (fmA fm0), .bool false])) w' := ⟨fm0, false, rfl, hb, fm0_in _, World.ownsRow_nil _ _ _ _, .inr ⟨rfl, rfl, h⟩⟩
theorem Pl.rdF_of {t : List UInt8} (f : Pl.Fm) (hf : Pl.Vf f) (e : Pl.txt f = t) : Pl.rdF Pl.nuP (Lib.fieldsD t) = some (Pl.rgF f) := by
  rw [← e, fieldsD_ascii _ (Pl.txt_ascii hf)]
  exact Pl.rdF_txt Pl.nuP_dgs hf
set_option maxRecDepth 100000 in
set_option maxHeartbeats 4000000 in
theorem read_long (s : ByteArray) (hs : s.size ≤ 100000) (h : 1277 < s.size) (w : World) : Calls Tryz.prog 18 #[.string s] w fun e w' => RdRes s w e w' := by
  have z0 : fmA fm0 = #[.string ⟨#[]⟩, .int .i64 0, .string ⟨#[]⟩, .slice none 0 0] := rfl
  have hB0 := (Below.refl w.heap.size w).alloc (Nat.le_refl _) (.cells (fmA fm0) 24)
  have bZ := Blk.new w 24 (fmA fm0)
  have HNO : Hid (∀ f' : Pl.Fm, Pl.Vf f' → Pl.txt f' ≠ Pl.byt s) := Lib.hid (fun f' hf' e' => by
    have h1 := Pl.txt_len hf'
    rw [e'] at h1
    have e0 : (Pl.byt s).length = s.size := rfl
    omega)
  have hI : (1277 : Int) < (s.size : Int) := by omega
  have HR := Lib.hid (RdRes.no hB0 HNO.out)
  clear h hB0
  go_enter Tryz.func18, Tryz.ntmps18
  go_wp2_with fail
  exact bodyPost_ret (v := .tuple #[.agg (fmA fm0), .bool false]) (results_cell2 Tryz.results18 _ _ w.heap.size 24 (fmA fm0) (0, 0) _ rfl bZ _ rfl Tryz.underlying24 rfl infoFm) rfl HR.out
set_option maxRecDepth 100000 in
set_option maxHeartbeats 4000000 in
theorem read_bad (s : ByteArray) (hs : s.size ≤ 1277) (w : World) (hE : Env w) (n : Nat) (hn : (Lib.fieldsD (Pl.byt s)).length = n) (h : n < 6 ∨ n % 4 ≠ 2) : Calls Tryz.prog 18 #[.string s] w fun e w' => RdRes s w e w' := by
  have z0 : fmA fm0 = #[.string ⟨#[]⟩, .int .i64 0, .string ⟨#[]⟩, .slice none 0 0] := rfl
  have hB0 := (Below.refl w.heap.size w).alloc (Nat.le_refl _) (.cells (fmA fm0) 24)
  have bZ := Blk.new w 24 (fmA fm0)
  have HNO : Hid (∀ f' : Pl.Fm, Pl.Vf f' → Pl.txt f' ≠ Pl.byt s) := Lib.hid (fun f' hf' e' => by
    have h1 := Pl.rdF_of f' hf' e'
    unfold Pl.rdF at h1
    rw [hn, if_pos h] at h1
    cases h1)
  have hI : decide ((1277 : Int) < (s.size : Int)) = false := by simp; omega
  have HB0 := Lib.hid hB0
  have HBZ := Lib.hid bZ
  have hlZ := bZ.lt
  have HC := Lib.hid (fun W => strings_Clone s W (by omega))
  have HF := Lib.hid (fun W hW => Tryz.strings_Fields_any s W (by omega) (Env.asc hW) (Env.wht hW))
  have HE0 := Lib.hid (hE.below hB0)
  have hfn : (Lib.fieldsD s.data.toList).length = n := hn
  rw [hfn] at HF
  have hnb : n ≤ 1279 := by have := Pl.fields_many (Pl.byt s); have e0 : (Pl.byt s).length = s.size := rfl; omega
  clear hn hfn hE hB0 bZ
  generalize hW0 : w.alloc (.cells (fmA fm0) 24) = W0 at *
  have hcs : decide ((n : Int) < 6) = true ∨ (decide ((n : Int) < 6) = false ∧ (((n : Int) % 4 != 2) = true)) := by
    by_cases h6 : n < 6
    · exact .inl (by simp; omega)
    · refine .inr ⟨by simp; omega, ?_⟩
      have h4 := h.resolve_left h6
      simp; omega
  clear h
  go_enter Tryz.func18, Tryz.ntmps18
  go_wp2_with fail
  try rw [← z0] at *
  try rw [hW0] at *
  refine (HC.out W0).mono ?_
  rintro e w2 ⟨rfl, hb2⟩
  have HB2 := Lib.hid (HB0.out.trans (hb2.mono HB0.out.size))
  have HZ2 := Lib.hid (HBZ.out.below hb2 hlZ)
  have HE2 := Lib.hid (HE0.out.below hb2)
  clear hb2 HBZ hlZ HB0
  go_wp2_with fail
  refine (HF.out w2 HE2.out).mono ?_
  rintro e w3 ⟨gW, rfl, hgW, hown, hb3⟩
  have HB3 := Lib.hid (HB2.out.trans (hb3.mono HB2.out.size))
  have hZ3 := HZ2.out.below hb3 HZ2.out.lt
  clear hb3 hown hgW HZ2
  rcases hcs with h6 | ⟨h6, h4⟩
  · go_wp2_with (refine st_fm (k := fm0) hZ3 rfl rfl _ _ rfl rfl rfl ?_; intro w9 hM9 hO9)
    have hB9 := HB3.out.trans (hO9.below (B := w.heap.size) (Nat.le_refl _))
    have HR := Lib.hid (RdRes.no hB9 HNO.out)
    exact bodyPost_ret (v := .tuple #[.agg (fmA fm0), .bool false]) (results_cell2 Tryz.results18 _ _ w.heap.size 24 (fmA fm0) (0, 0) _ rfl hM9 _ rfl Tryz.underlying24 rfl infoFm) rfl HR.out
  · go_wp2_with (refine st_fm (k := fm0) hZ3 rfl rfl _ _ rfl rfl rfl ?_; intro w9 hM9 hO9)
    have hB9 := HB3.out.trans (hO9.below (B := w.heap.size) (Nat.le_refl _))
    have HR := Lib.hid (RdRes.no hB9 HNO.out)
    exact bodyPost_ret (v := .tuple #[.agg (fmA fm0), .bool false]) (results_cell2 Tryz.results18 _ _ w.heap.size 24 (fmA fm0) (0, 0) _ rfl hM9 _ rfl Tryz.underlying24 rfl infoFm) rfl HR.out
set_option maxRecDepth 100000 in
set_option maxHeartbeats 8000000 in
theorem read_in (s : ByteArray) (hs : s.size ≤ 1277) (w : World) (hE : Env w) (Ws : List (List UInt8)) (hWs : Lib.fieldsD (Pl.byt s) = Ws) (n m : Nat) (hn : Ws.length = n) (hnm : n = m * 4 + 6) :
    CallsIn Fence.wide 5 Tryz.prog 18 #[.string s] w fun e w' => RdRes s w e w' := by
  have z0 : fmA fm0 = #[.string ⟨#[]⟩, .int .i64 0, .string ⟨#[]⟩, .slice none 0 0] := rfl
  have hB0 := (Below.refl w.heap.size w).alloc (Nat.le_refl _) (.cells (fmA fm0) 24)
  have bZ := Blk.new w 24 (fmA fm0)
  have hI : decide ((1277 : Int) < (s.size : Int)) = false := by simp; omega
  have HB0 := Lib.hid hB0
  have HBZ := Lib.hid bZ
  have hlZ := bZ.lt
  have HC := Lib.hid (fun W => strings_Clone s W (by omega))
  have HF := Lib.hid (fun W hW => Tryz.strings_Fields_any s W (by omega) (Env.asc hW) (Env.wht hW))
  have HE0 := Lib.hid (hE.below hB0)
  have hfw : Lib.fieldsD s.data.toList = Ws := hWs
  rw [hfw] at HF
  have HWL : Hid (∀ x, x ∈ Ws → x.length ≤ 1277) := Lib.hid (fun x hx => by
    rw [← hWs] at hx
    have := Pl.fields_le hx
    have e0 : (Pl.byt s).length = s.size := rfl
    omega)
  have hnb : n ≤ 1279 := by have := Pl.fields_many (Pl.byt s); rw [hWs, hn] at this; have e0 : (Pl.byt s).length = s.size := rfl; omega
  rw [hn] at HF
  have HWS := Lib.hid hWs
  have HN := Lib.hid hn
  have HNM := Lib.hid hnm
  have h6 : decide ((n : Int) < 6) = false := by simp; omega
  have h4 : ((n : Int) % 4 != 2) = false := by simp; omega
  have hn6 : 6 ≤ n := by omega
  clear hn hfw hE hB0 bZ hWs hnm
  generalize hW0 : w.alloc (.cells (fmA fm0) 24) = W0 at *
  refine callsIn_of_wp_marks Tryz.func18 rfl trivial ?_ rfl
  simp only [Tryz.ntmps18, List.size_toArray, List.length_cons, List.length_nil, Nat.reduceAdd, Nat.reduceSub, Array.replicate_succ, Array.replicate_zero, List.push_toArray, List.append_toArray, List.nil_append, List.cons_append]
  refine wpIn_wide.2 ?_
  go_wp2_with fail
  try rw [← z0] at *
  try rw [hW0] at *
  refine (HC.out W0).mono ?_
  rintro e w2 ⟨rfl, hb2⟩
  have HB2 := Lib.hid (HB0.out.trans (hb2.mono HB0.out.size))
  have HZ2 := Lib.hid (HBZ.out.below hb2 hlZ)
  have HE2 := Lib.hid (HE0.out.below hb2)
  clear hb2 HBZ hlZ HB0 hW0
  go_wp2_with fail
  refine (HF.out w2 HE2.out).mono ?_
  rintro e w3 ⟨gW, rfl, hgW, hown, hb3⟩
  have HB3 := Lib.hid (HB2.out.trans (hb3.mono HB2.out.size))
  obtain ⟨i0, hi, hz0, hz1, hz2⟩ := info_parts infoLn5
  have HZ3 := Lib.hid (HZ2.out.below hb3 HZ2.out.lt)
  have HE3 := Lib.hid (HE2.out.below hb3)
  obtain ⟨gW', cW, curW, hgv, _, hcap, hmax, hbW, hcells⟩ := sts_open (l := Ws) hown HN.out.symm (by omega)
  cases hgv
  have hgl := hbW.lt
  have hlZ3 := HZ3.out.lt
  have HCE := Lib.hid hcells
  clear hb3 hown hgW HZ2 hcap hmax hbW hcells HE2 HB2
  have q1 := fun s : Ext w3 => s.cell (HCE.out 1 (by rw [HN.out]; omega))
  have q3 := fun s : Ext w3 => s.cell (HCE.out 3 (by rw [HN.out]; omega))
  have q5 := fun s : Ext w3 => s.cell (HCE.out 5 (by rw [HN.out]; omega))
  have HKN := Lib.hid (fun W hW => number_any ⟨(Ws[3]'(by rw [HN.out]; omega)).toArray⟩ (by rw [bsz]; have := HWL.out _ (List.getElem_mem (by rw [HN.out]; omega : 3 < Ws.length)); omega) W hW)
  have hy3 : Pl.byt (⟨(Ws[3]'(by rw [HN.out]; omega)).toArray⟩ : ByteArray) = Ws[3]'(by rw [HN.out]; omega) := by unfold Pl.byt; simp
  rw [hy3] at HKN
  clear hy3
  obtain ⟨cus, hcus⟩ : ∃ x, Ws[1]'(by rw [HN.out]; omega) = x := ⟨_, rfl⟩
  obtain ⟨cur, hcur⟩ : ∃ x, Ws[5]'(by rw [HN.out]; omega) = x := ⟨_, rfl⟩
  obtain ⟨dyt, hdyt⟩ : ∃ x, Ws[3]'(by rw [HN.out]; omega) = x := ⟨_, rfl⟩
  rw [hcus] at q1
  rw [hcur] at q5
  rw [hdyt] at q3 HKN
  have HRF : Hid (∀ xs, Pl.rdL Pl.nuP (Ws.drop 6) = xs → Pl.rdF Pl.nuP Ws = some ⟨cus, Pl.nuP dyt, cur, xs⟩) := Lib.hid (fun xs h => by
    unfold Pl.rdF
    rw [HN.out, if_neg (by have := HNM.out; omega), h, ← hcus, ← hcur, ← hdyt]
    simp only [List.getD_eq_getElem?_getD]
    rw [List.getElem?_eq_getElem (by rw [HN.out]; omega), List.getElem?_eq_getElem (by rw [HN.out]; omega), List.getElem?_eq_getElem (by rw [HN.out]; omega)]
    rfl)
  have HSZ : Hid (cus.length ≤ 1277 ∧ cur.length ≤ 1277) := Lib.hid ⟨by rw [← hcus]; exact HWL.out _ (List.getElem_mem _), by rw [← hcur]; exact HWL.out _ (List.getElem_mem _)⟩
  clear hcus hcur hdyt
  generalize Pl.nuP dyt = dy at *
  have g1 : 1 < n := by omega
  have g3 : 3 < n := by omega
  have g5 : 5 < n := by omega
  have g1i : (1 : Int) < (n : Int) := by omega
  have g3i : (3 : Int) < (n : Int) := by omega
  have g5i : (5 : Int) < (n : Int) := by omega
  go_wp2_with fail
  refine Code.wp_mono (Q := fun e' a' w' => e' = .normal ∧ ∃ (gF : Nat) (y7 y8 y9 y11 y12 y13 y14 y15 y16 y17 y18 y19 y20 y21 y22 y23 y24 y25 y26 y27 y28 y29 y30 y31 y32 y33 y34 : Value), a' = { tmps := #[.string s, undef, .pointer (some ⟨w.heap.size, 0, none⟩), .bool false, .slice (some ⟨gW, 0, none⟩) n n, .pointer (some ⟨gF, 0, none⟩), undef, y7, y8, y9, undef, y11, y12, y13, y14, y15, y16, y17, y18, y19, y20, y21, y22, y23, y24, y25, y26, y27, y28, y29, y30, y31, y32, y33, y34, undef, undef, undef, undef, undef, undef, undef, undef, undef, undef, undef, undef, undef, undef, undef, undef, undef, undef, undef, undef, undef, undef, undef, undef, undef, undef], defers := [] } ∧ w3.heap.size ≤ gF ∧ Blk w' gF 24 #[.string ⟨cus.toArray⟩, .int .i64 dy, .string ⟨cur.toArray⟩, .slice none 0 0] ∧ Below w3.heap.size w3 w') ?goon ?region
  case region =>
    refine wp_region_held (S := fun V9 => ∃ s : Ext w3, V9 = s.w) (by kernel_rfl) ?_
    change wpAnyH _ _ _ _ _ _ _ _ (World.drew _)
    have hS : ∃ s : Ext w3, (World.drew w3) = s.w := ⟨⟨_, (Below.refl _ _).drew⟩, rfl⟩
    generalize World.drew w3 = w3d at *
    refine takeD (i := 0) (d := (some 24)) (v := ?_) rfl rfl (by kernel_rfl) (by decide +kernel) (by decide +kernel) (fun _ _ _ h => by cases h.1) (Or.inl ⟨by first | kernel_rfl | rfl, ?_⟩) hS ?_
    rotate_left
    · intro w' hT; obtain ⟨s, rfl⟩ := hT; have p1 := q1 s; have p3 := q3 s; have p5 := q5 s; first | (go_simp; done) | (go_simp; with_reducible rfl)
    refine takeD (i := 1) (d := (some 25)) (v := ?_) rfl rfl (by kernel_rfl) (by decide +kernel) (by decide +kernel) (fun _ _ _ h => by cases h.1) (Or.inl ⟨by first | kernel_rfl | rfl, ?_⟩) hS ?_
    rotate_left
    · intro w' hT; obtain ⟨s, rfl⟩ := hT; have p1 := q1 s; have p3 := q3 s; have p5 := q5 s; first | (go_simp; done) | (go_simp; with_reducible rfl)
    refine takeD (i := 2) (d := (some 26)) (v := ?_) rfl rfl (by kernel_rfl) (by decide +kernel) (by decide +kernel) (fun _ _ _ h => by cases h.1) (Or.inl ⟨by first | kernel_rfl | rfl, ?_⟩) hS ?_
    rotate_left
    · intro w' hT; obtain ⟨s, rfl⟩ := hT; have p1 := q1 s; have p3 := q3 s; have p5 := q5 s; first | (go_simp; done) | (go_simp; with_reducible rfl)
    refine takeD (i := 3) (d := (some 27)) (v := ?_) rfl rfl (by kernel_rfl) (by decide +kernel) (by decide +kernel) (fun _ _ _ h => by cases h.1) (Or.inl ⟨by first | kernel_rfl | rfl, ?_⟩) hS ?_
    rotate_left
    · intro w' hT; obtain ⟨s, rfl⟩ := hT; have p1 := q1 s; have p3 := q3 s; have p5 := q5 s; first | (go_simp; done) | (go_simp; with_reducible rfl)
    refine takeD (i := 4) (d := (some 28)) (v := ?_) rfl rfl (by kernel_rfl) (by decide +kernel) (by decide +kernel) (fun _ _ _ h => by cases h.1) (Or.inl ⟨by first | kernel_rfl | rfl, ?_⟩) hS ?_
    rotate_left
    · intro w' hT; obtain ⟨s, rfl⟩ := hT; have p1 := q1 s; have p3 := q3 s; have p5 := q5 s; first | (go_simp; done) | (go_simp; with_reducible rfl)
    refine takeD (i := 5) (d := (some 29)) (v := ?_) rfl rfl (by kernel_rfl) (by decide +kernel) (by decide +kernel) (fun _ _ _ h => by cases h.1) (Or.inl ⟨by first | kernel_rfl | rfl, ?_⟩) hS ?_
    rotate_left
    · intro w' hT; obtain ⟨s, rfl⟩ := hT; have p1 := q1 s; have p3 := q3 s; have p5 := q5 s; first | (go_simp; done) | (go_simp; with_reducible rfl)
    refine takeD (i := 7) (d := (some 31)) (v := ?_) rfl rfl (by kernel_rfl) (by decide +kernel) (by decide +kernel) (fun _ _ _ h => by cases h.1) (Or.inl ⟨by first | kernel_rfl | rfl, ?_⟩) hS ?_
    rotate_left
    · intro w' hT; obtain ⟨s, rfl⟩ := hT; have p1 := q1 s; have p3 := q3 s; have p5 := q5 s; first | (go_simp; done) | (go_simp; with_reducible rfl)
    refine takeD (i := 8) (d := (some 32)) (v := ?_) rfl rfl (by kernel_rfl) (by decide +kernel) (by decide +kernel) (fun _ _ _ h => by cases h.1) (Or.inl ⟨by first | kernel_rfl | rfl, ?_⟩) hS ?_
    rotate_left
    · intro w' hT; obtain ⟨s, rfl⟩ := hT; have p1 := q1 s; have p3 := q3 s; have p5 := q5 s; first | (go_simp; done) | (go_simp; with_reducible rfl)
    refine takeD (i := 9) (d := (some 33)) (v := ?_) rfl rfl (by kernel_rfl) (by decide +kernel) (by decide +kernel) (fun _ _ _ h => by cases h.1) (Or.inl ⟨by first | kernel_rfl | rfl, ?_⟩) hS ?_
    rotate_left
    · intro w' hT; obtain ⟨s, rfl⟩ := hT; have p1 := q1 s; have p3 := q3 s; have p5 := q5 s; first | (go_simp; done) | (go_simp; with_reducible rfl)
    refine actNorm (fun a' ha => ?_); (try simp [go_sem] at ha); subst ha
    refine wpAnyH_all (rs := [6, 11]) (by decide +kernel) (by simp) ?_
    intro i0 hi0
    obtain rfl | rfl : i0 = 6 ∨ i0 = 11 := by simpa using hi0
    clear hi0
    · skip
      refine wpOp_goE rfl (by kernel_rfl) (fun K hK => ?_)
      go_simp
      obtain ⟨s0, hs0⟩ := hS
      have hs1 : Below w3.heap.size w3 w3d := by rw [hs0]; exact s0.h
      refine (HKN.out _ (HE3.out.below hs1)).mono ?_
      rintro e W1 ⟨rfl, hb1⟩
      have hS : ∃ s : Ext w3, W1 = s.w := ⟨⟨_, hs1.trans (hb1.mono hs1.size)⟩, rfl⟩
      clear hs0 s0 hs1 hb1
      refine hK _ _ ⟨hS, ?_⟩
      clear hK K
      refine actNorm (fun a' ha => ?_); (try simp [go_sem] at ha); subst ha
      refine takeD (i := 10) (d := (some 34)) (v := ?_) rfl rfl (by kernel_rfl) (by decide +kernel) (by decide +kernel) (fun _ _ _ h => by cases h.1) (Or.inl ⟨by first | kernel_rfl | rfl, ?_⟩) hS ?_
      rotate_left
      · intro w' hT; obtain ⟨s, rfl⟩ := hT; first | (go_simp; done) | (go_simp; with_reducible rfl)
      refine actNorm (fun a' ha => ?_); (try simp [go_sem] at ha); subst ha
      refine wpAnyH_all (rs := [11]) (by decide +kernel) (by simp) ?_
      intro i0 hi0
      have hi1 := List.mem_singleton.1 hi0
      clear hi0
      subst hi1
      refine wpOp_goE rfl (by kernel_rfl) (fun K hK => ?_)
      go_simp
      obtain ⟨s0, hs0⟩ := hS
      have hs1 : Below w3.heap.size w3 W1 := by rw [hs0]; exact s0.h
      have hS : ∃ s : Ext w3, W1.alloc (.cells #[.string ⟨#[]⟩, .int .i64 0, .string ⟨#[]⟩, .slice none 0 0] 24) = s.w := ⟨⟨_, hs1.alloc hs1.size _⟩, rfl⟩
      have bF := Blk.new W1 24 #[.string ⟨#[]⟩, .int .i64 0, .string ⟨#[]⟩, .slice none 0 0]
      have hgF := hs1.size
      clear hs1 hs0 s0
      refine hK _ _ ⟨hS, ?_⟩
      clear hK K
      generalize W1.alloc (.cells #[.string ⟨#[]⟩, .int .i64 0, .string ⟨#[]⟩, .slice none 0 0] 24) = wa at *
      generalize W1.heap.size = gF at *
      refine actNorm (fun a' ha => ?_); (try simp [go_sem] at ha); subst ha
      refine wpAnyH_all (rs := [12]) (by decide +kernel) (by simp) ?_
      intro i0 hi0
      have hi1 := List.mem_singleton.1 hi0
      clear hi0
      subst hi1
      refine wpOp_goE rfl (by kernel_rfl) (fun K hK => ?_)
      obtain ⟨s0, hs0⟩ := hS
      have hs1 : Below w3.heap.size w3 wa := by rw [hs0]; exact s0.h
      have hO := Only.setRow gF wa (fmA ⟨⟨cus.toArray⟩, dy, ⟨cur.toArray⟩, [], none, 0⟩)
      have hs2 := hs1.trans (hO.below hgF)
      have hb2 : Blk (wa.setRow gF (fmA ⟨⟨cus.toArray⟩, dy, ⟨cur.toArray⟩, [], none, 0⟩)) gF 24 (fmA ⟨⟨cus.toArray⟩, dy, ⟨cur.toArray⟩, [], none, 0⟩) := blk_setRow bF
      refine wp_store_row 24 (.tmp 5) (.tmp 34) rfl gF (fmA ⟨⟨cus.toArray⟩, dy, ⟨cur.toArray⟩, [], none, 0⟩) rfl rfl 24 _ bF infoFm rfl (fm_all _) (hK _ _ ⟨⟨⟨_, hs2⟩, rfl⟩, ?_⟩)
      refine wpAnyH_done (by decide +kernel) ?_ _
      exact ⟨rfl, gF, _, _, _, _, _, _, _, _, _, _, _, _, _, _, _, _, _, _, _, _, _, _, _, _, _, _, _, rfl, hgF, hb2, hs2⟩
    · skip
      refine wpOp_goE rfl (by kernel_rfl) (fun K hK => ?_)
      go_simp
      obtain ⟨s0, hs0⟩ := hS
      have hs1 : Below w3.heap.size w3 w3d := by rw [hs0]; exact s0.h
      have hS : ∃ s : Ext w3, w3d.alloc (.cells #[.string ⟨#[]⟩, .int .i64 0, .string ⟨#[]⟩, .slice none 0 0] 24) = s.w := ⟨⟨_, hs1.alloc hs1.size _⟩, rfl⟩
      have bF := Blk.new w3d 24 #[.string ⟨#[]⟩, .int .i64 0, .string ⟨#[]⟩, .slice none 0 0]
      have hgF := hs1.size
      clear hs1 hs0 s0
      refine hK _ _ ⟨hS, ?_⟩
      clear hK K
      generalize w3d.alloc (.cells #[.string ⟨#[]⟩, .int .i64 0, .string ⟨#[]⟩, .slice none 0 0] 24) = wa at *
      generalize w3d.heap.size = gF at *
      refine actNorm (fun a' ha => ?_); (try simp [go_sem] at ha); subst ha
      refine wpAnyH_all (rs := [6]) (by decide +kernel) (by simp) ?_
      intro i0 hi0
      have hi1 := List.mem_singleton.1 hi0
      clear hi0
      subst hi1
      refine wpOp_goE rfl (by kernel_rfl) (fun K hK => ?_)
      go_simp
      obtain ⟨s0, hs0⟩ := hS
      have hs1 : Below w3.heap.size w3 wa := by rw [hs0]; exact s0.h
      refine (HKN.out _ (HE3.out.below hs1)).mono ?_
      rintro e W1 ⟨rfl, hb1⟩
      have hS : ∃ s : Ext w3, W1 = s.w := ⟨⟨_, hs1.trans (hb1.mono hs1.size)⟩, rfl⟩
      have bF := bF.below hb1 bF.lt
      clear hs0 s0 hs1 hb1
      refine hK _ _ ⟨hS, ?_⟩
      clear hK K
      refine actNorm (fun a' ha => ?_); (try simp [go_sem] at ha); subst ha
      refine takeD (i := 10) (d := (some 34)) (v := ?_) rfl rfl (by kernel_rfl) (by decide +kernel) (by decide +kernel) (fun _ _ _ h => by cases h.1) (Or.inl ⟨by first | kernel_rfl | rfl, ?_⟩) hS ?_
      rotate_left
      · intro w' hT; obtain ⟨s, rfl⟩ := hT; first | (go_simp; done) | (go_simp; with_reducible rfl)
      refine actNorm (fun a' ha => ?_); (try simp [go_sem] at ha); subst ha
      refine wpAnyH_all (rs := [12]) (by decide +kernel) (by simp) ?_
      intro i0 hi0
      have hi1 := List.mem_singleton.1 hi0
      clear hi0
      subst hi1
      refine wpOp_goE rfl (by kernel_rfl) (fun K hK => ?_)
      obtain ⟨s0, hs0⟩ := hS
      have hs1 : Below w3.heap.size w3 W1 := by rw [hs0]; exact s0.h
      have hO := Only.setRow gF W1 (fmA ⟨⟨cus.toArray⟩, dy, ⟨cur.toArray⟩, [], none, 0⟩)
      have hs2 := hs1.trans (hO.below hgF)
      have hb2 : Blk (W1.setRow gF (fmA ⟨⟨cus.toArray⟩, dy, ⟨cur.toArray⟩, [], none, 0⟩)) gF 24 (fmA ⟨⟨cus.toArray⟩, dy, ⟨cur.toArray⟩, [], none, 0⟩) := blk_setRow bF
      refine wp_store_row 24 (.tmp 5) (.tmp 34) rfl gF (fmA ⟨⟨cus.toArray⟩, dy, ⟨cur.toArray⟩, [], none, 0⟩) rfl rfl 24 _ bF infoFm rfl (fm_all _) (hK _ _ ⟨⟨⟨_, hs2⟩, rfl⟩, ?_⟩)
      refine wpAnyH_done (by decide +kernel) ?_ _
      exact ⟨rfl, gF, _, _, _, _, _, _, _, _, _, _, _, _, _, _, _, _, _, _, _, _, _, _, _, _, _, _, _, rfl, hgF, hb2, hs2⟩
  case goon =>
    rintro e a W5 ⟨rfl, gF, y7, y8, y9, y11, y12, y13, y14, y15, y16, y17, y18, y19, y20, y21, y22, y23, y24, y25, y26, y27, y28, y29, y30, y31, y32, y33, y34, rfl, hgF, hbF, hb5⟩
    clear q1 q3 q5 g1 g3 g5 g1i g3i g5i HKN
    by_cases h60 : n = 6
    · subst h60
      go_wp2_with fail
      refine (callsIn_wide.1 (chunk_in 0 (some ⟨gW, 0, none⟩) (0) (0) W5)).mono ?_
      rintro e w' ⟨rfl, rfl⟩
      have bF := (Blk.alloc hbF (.cells #[.slice (some ⟨gW, 0, none⟩) (0) (0)] 55)).alloc (.cells #[.int .i64 4] 3)
      have bS := (Blk.new W5 55 #[.slice (some ⟨gW, 0, none⟩) (0) (0)]).alloc (.cells #[.int .i64 4] 3)
      have bT := Blk.new (W5.alloc (.cells #[.slice (some ⟨gW, 0, none⟩) (0) (0)] 55)) 3 #[.int .i64 4]
      have hB6 : Below w3.heap.size w3 ((W5.alloc (.cells #[.slice (some ⟨gW, 0, none⟩) (0) (0)] 55)).alloc (.cells #[.int .i64 4] 3)) := (hb5.alloc hb5.size _).alloc (by have := hb5.size; simp; omega) _
      have hsz : ((W5.alloc (.cells #[.slice (some ⟨gW, 0, none⟩) (0) (0)] 55)).alloc (.cells #[.int .i64 4] 3)).heap.size = W5.heap.size + 2 := by simp
      have hFs := hbF.lt
      simp only [World.size_alloc] at bS bT
      obtain ⟨W0', hW0'⟩ : ∃ W0, (W5.alloc (.cells #[.slice (some ⟨gW, 0, none⟩) (0) (0)] 55)).alloc (.cells #[.int .i64 4] 3) = W0 := ⟨_, rfl⟩
      rw [hW0'] at bF bS bT hB6 hsz ⊢
      clear hW0' hbF hb5
      have hBs : w3.heap.size ≤ W0'.heap.size := hB6.size
      have h3F : w3.heap.size ≤ W5.heap.size := by omega
      generalize hBS : W5.heap.size = Bs at *
      go_wp2_with fail
      refine (wpIn_wide (n := 5)).1 ?_
      refine wpIn_rangeFunc_ownG rfl (by omega) (gf := 64) (lb := #[.pointer (some ⟨Bs, 0, none⟩), .pointer (some ⟨Bs + 1, 0, none⟩)]) rfl trivial (enters_of Tryz.func64 (by kernel_rfl) rfl)
        (chunk_stops (5 - 1) (by omega) Bs w3.heap.size gW 6 (0) m (0) (some ⟨gW, 0, none⟩) (fun h => by have := HNM.out; omega) (by have := HNM.out; omega) (by have := HNM.out; omega) (Nat.le_refl _) W0' (by omega) (bS.cell 0) (bT.cell 0))
        KeepsC.trans (keepsC_b (by omega) (by omega)) (Below.refl _ _) (fun _ => rfl)
        (fun pre W => (((∃ v, Blk W gF 24 ((fun v : Value => #[.string ⟨cus.toArray⟩, .int .i64 dy, .string ⟨cur.toArray⟩, v]) v) ∧ W.ownsRow w3.heap.size 45 4 v pre.length (flt lnL (Pl.dL Pl.nuP (Ws.drop 6) pre))) ∧ Blk W Bs 55 #[.slice (some ⟨gW, 0, none⟩) (0) (0)]) ∧ Blk W (Bs + 1) 3 #[.int .i64 4]) ∧ Below w3.heap.size w3 W)
        (fun _ _ _ => False)
        (OwnFrom.and (OwnFrom.and (OwnFrom.and (Own.from (formRow_own w3.heap.size gF 24 45 4 (fun pre : List (Fin m) => pre.length) (fun pre => flt lnL (Pl.dL Pl.nuP (Ws.drop 6) pre)) (fun v : Value => #[.string ⟨cus.toArray⟩, .int .i64 dy, .string ⟨cur.toArray⟩, v])) _) (Own.from (blk_own _ _ _) _)) (Own.from (blk_own _ _ _) _)) (ownFrom_below (Nat.le_refl _) (by omega)))
        (fun _ _ _ _ _ hs _ _ => hs)
        ⟨⟨⟨⟨_, bF, World.ownsRow_nil _ _ _ _⟩, bS⟩, bT⟩, hB6⟩
        (fun x => { tmps := #[.string s, undef, .pointer (some ⟨w.heap.size, 0, none⟩), .bool false, .slice (some ⟨gW, 0, none⟩) 6 6, .pointer (some ⟨gF, 0, none⟩), .slice (some ⟨gW, 6 + x.1 * 4, none⟩) 4 4, y7, y8, y9, undef, y11, y12, y13, y14, y15, y16, y17, y18, y19, y20, y21, y22, y23, y24, y25, y26, y27, y28, y29, y30, y31, y32, y33, y34, .slice (some ⟨gW, 0, none⟩) 6 6, .slice (some ⟨gW, 0, none⟩) (0) (0), .func (.func 64) #[] #[.pointer (some ⟨Bs, 0, none⟩), .pointer (some ⟨Bs + 1, 0, none⟩)], .slice (some ⟨gW, 6 + x.1 * 4, none⟩) 4 4, undef, undef, undef, undef, undef, undef, undef, undef, undef, undef, undef, undef, undef, undef, undef, undef, undef, undef, undef, undef, undef, undef], defers := [] }) ?assign ?body ?done ?stop
      case assign =>
        intro lp x W K hK
        gi_wp2
        exact hK
      case stop =>
        rintro D c pre W _ _ h _
        exact h.elim
      case body =>
        intro lp pre x W _ hlt
        exact absurd hlt (by have := HNM.out; omega)
      case done =>
        rintro D ys W hD rfl ⟨⟨⟨⟨v, hF, hrow⟩, _⟩, _⟩, hB⟩ hK
        have hwl : (Ws.drop 6).length = m * 4 := by rw [List.length_drop, HN.out]; have := HNM.out; omega
        rw [Pl.dL_all _ _ m hwl, List.length_finRange] at hrow
        have hmd : ∀ y, y ∈ Pl.rdL Pl.nuP (Ws.drop 6) → y.md.size ≤ 1277 := fun y hy => by
          rw [Pl.rdL_map _ m _ hwl] at hy
          obtain ⟨k, _, rfl⟩ := List.mem_map.1 hy
          unfold Pl.lnAt
          rw [bsz, List.getD_eq_getElem?_getD, List.getElem?_drop]
          rcases Nat.lt_or_ge (6 + k * 4) Ws.length with h | h
          · rw [List.getElem?_eq_getElem h]; exact HWL.out _ (List.getElem_mem h)
          · rw [List.getElem?_eq_none h]; simp
        have hml : m = (Pl.rdL Pl.nuP (Ws.drop 6)).length := by rw [Pl.rdL_map _ m _ hwl]; simp
        obtain ⟨xs, hxs⟩ : ∃ xs, Pl.rdL Pl.nuP (Ws.drop 6) = xs := ⟨_, rfl⟩
        have HRG := Lib.hid (HRF.out xs hxs)
        rw [hxs] at hrow hml hmd
        rw [hml] at hrow
        obtain ⟨A3, k3, rfl, hr3, hk3, hm3⟩ := rows_of_owns encLn hrow
        obtain ⟨G, hG⟩ : ∃ G : Pl.Fm, G = ⟨⟨cus.toArray⟩, dy, ⟨cur.toArray⟩, xs, A3, k3⟩ := ⟨_, rfl⟩
        have hGE : fmA G = #[.string ⟨cus.toArray⟩, .int .i64 dy, .string ⟨cur.toArray⟩, .slice A3 xs.length k3] := by rw [hG]
        have hFG : Blk W gF 24 (fmA G) := by rw [hGE]; exact hF
        have hGI : ∀ W', Rows lnL 4 W' A3 xs → FmIn W' G := fun W' hr => by
          rw [hG]
          exact ⟨hr, hk3, hm3, fun y hy => by have := hmd y hy; unfold maxLen; omega, by have := HSZ.out.1; rw [bsz]; unfold maxLen; omega, by have := HSZ.out.2; rw [bsz]; unfold maxLen; omega⟩
        have HGI := Lib.hid hGI
        have HGQ := Lib.hid hG
        have HGR : Hid (G = Pl.fmR ⟨cus, dy, cur, xs⟩ G.a G.k) := Lib.hid (by rw [hG]; rfl)
        have hZ := HZ3.out.below hB hlZ3
        have hlZ9 := hZ.lt
        have q6 := hFG.range
        have HOW := Lib.hid hrow
        have hBw := HB3.out.trans (hB.mono HB3.out.size)
        have hDZ : D ≠ w.heap.size := by omega
        have hB0s := HB3.out.size
        clear hwl hmd hml hxs hr3 hk3 hm3 hG hGE hF hrow hGI
        go_wp2_with (first | refine ldm_fm (s := G) q6 rfl _ rfl rfl ?_ | (refine st_fm (k := G) hZ rfl rfl _ _ rfl rfl rfl ?_; intro w9 hM9 hO9))
        have hK9 := (hO9.block D hDZ).trans hK
        have hB9 := hBw.trans (hO9.below (B := w.heap.size) (Nat.le_refl _))
        have hgb : W.grownBy w9 (some w.heap.size) := ⟨hO9.os, hO9.tape, hO9.output, by rw [hO9.size]; exact Nat.le_refl _, fun k hk hne => hO9.block k (fun e => hne (by rw [e]))⟩
        have h9 := HOW.out.kept hgb (.inr (fun h => by have := (HOW.out.lt _ h).1; omega))
        have h10 := ownsRow_putObj h9 (l := D) (o := .deferred (some [])) (.deferred none) hK9 rfl
        obtain ⟨A4, k4, e4, hr4, _, _⟩ := rows_of_owns encLn h10
        cases e4
        have hM10 : Blk (w9.putObj D (.deferred none)) w.heap.size 24 (fmA G) := (World.putObj_heap_other (Ne.symm hDZ)).trans hM9
        refine ⟨by simp, .inl ⟨_, _, rfl, run_takeDeferred hK9, ?_⟩⟩
        refine ⟨.tuple #[.agg (fmA G), .bool true], results_cell2 Tryz.results18 _ _ w.heap.size 24 (fmA G) (0, 0) _ rfl hM10 _ rfl Tryz.underlying24 rfl infoFm, G, true, rfl, hB9.trans (belowK_b (w := w) (Nat.le_refl _) _ D _ _ (by omega) hK9 rfl rfl), HGI.out _ hr4, ?_, .inl ⟨rfl, _, ?_, HGR.out⟩⟩
        · rw [HGQ.out]
          exact own_mono h10 HB3.out.size
        · rw [HWS.out]; exact HRG.out
    · skip
      go_wp2_with fail
      refine (callsIn_wide.1 (chunk_in 0 (some ⟨gW, 6, none⟩) (n - 6) (n - 6) W5)).mono ?_
      rintro e w' ⟨rfl, rfl⟩
      have bF := (Blk.alloc hbF (.cells #[.slice (some ⟨gW, 6, none⟩) (n - 6) (n - 6)] 55)).alloc (.cells #[.int .i64 4] 3)
      have bS := (Blk.new W5 55 #[.slice (some ⟨gW, 6, none⟩) (n - 6) (n - 6)]).alloc (.cells #[.int .i64 4] 3)
      have bT := Blk.new (W5.alloc (.cells #[.slice (some ⟨gW, 6, none⟩) (n - 6) (n - 6)] 55)) 3 #[.int .i64 4]
      have hB6 : Below w3.heap.size w3 ((W5.alloc (.cells #[.slice (some ⟨gW, 6, none⟩) (n - 6) (n - 6)] 55)).alloc (.cells #[.int .i64 4] 3)) := (hb5.alloc hb5.size _).alloc (by have := hb5.size; simp; omega) _
      have hsz : ((W5.alloc (.cells #[.slice (some ⟨gW, 6, none⟩) (n - 6) (n - 6)] 55)).alloc (.cells #[.int .i64 4] 3)).heap.size = W5.heap.size + 2 := by simp
      have hFs := hbF.lt
      simp only [World.size_alloc] at bS bT
      obtain ⟨W0', hW0'⟩ : ∃ W0, (W5.alloc (.cells #[.slice (some ⟨gW, 6, none⟩) (n - 6) (n - 6)] 55)).alloc (.cells #[.int .i64 4] 3) = W0 := ⟨_, rfl⟩
      rw [hW0'] at bF bS bT hB6 hsz ⊢
      clear hW0' hbF hb5
      have hBs : w3.heap.size ≤ W0'.heap.size := hB6.size
      have h3F : w3.heap.size ≤ W5.heap.size := by omega
      generalize hBS : W5.heap.size = Bs at *
      go_wp2_with fail
      refine (wpIn_wide (n := 5)).1 ?_
      refine wpIn_rangeFunc_ownG rfl (by omega) (gf := 64) (lb := #[.pointer (some ⟨Bs, 0, none⟩), .pointer (some ⟨Bs + 1, 0, none⟩)]) rfl trivial (enters_of Tryz.func64 (by kernel_rfl) rfl)
        (chunk_stops (5 - 1) (by omega) Bs w3.heap.size gW 6 (n - 6) m (n - 6) (some ⟨gW, 6, none⟩) (fun _ => rfl) (by have := HNM.out; omega) (by have := HNM.out; omega) (Nat.le_refl _) W0' (by omega) (bS.cell 0) (bT.cell 0))
        KeepsC.trans (keepsC_b (by omega) (by omega)) (Below.refl _ _) (fun _ => rfl)
        (fun pre W => (((∃ v, Blk W gF 24 ((fun v : Value => #[.string ⟨cus.toArray⟩, .int .i64 dy, .string ⟨cur.toArray⟩, v]) v) ∧ W.ownsRow w3.heap.size 45 4 v pre.length (flt lnL (Pl.dL Pl.nuP (Ws.drop 6) pre))) ∧ Blk W Bs 55 #[.slice (some ⟨gW, 6, none⟩) (n - 6) (n - 6)]) ∧ Blk W (Bs + 1) 3 #[.int .i64 4]) ∧ Below w3.heap.size w3 W)
        (fun _ _ _ => False)
        (OwnFrom.and (OwnFrom.and (OwnFrom.and (Own.from (formRow_own w3.heap.size gF 24 45 4 (fun pre : List (Fin m) => pre.length) (fun pre => flt lnL (Pl.dL Pl.nuP (Ws.drop 6) pre)) (fun v : Value => #[.string ⟨cus.toArray⟩, .int .i64 dy, .string ⟨cur.toArray⟩, v])) _) (Own.from (blk_own _ _ _) _)) (Own.from (blk_own _ _ _) _)) (ownFrom_below (Nat.le_refl _) (by omega)))
        (fun _ _ _ _ _ hs _ _ => hs)
        ⟨⟨⟨⟨_, bF, World.ownsRow_nil _ _ _ _⟩, bS⟩, bT⟩, hB6⟩
        (fun x => { tmps := #[.string s, undef, .pointer (some ⟨w.heap.size, 0, none⟩), .bool false, .slice (some ⟨gW, 0, none⟩) n n, .pointer (some ⟨gF, 0, none⟩), .slice (some ⟨gW, 6 + x.1 * 4, none⟩) 4 4, y7, y8, y9, undef, y11, y12, y13, y14, y15, y16, y17, y18, y19, y20, y21, y22, y23, y24, y25, y26, y27, y28, y29, y30, y31, y32, y33, y34, .slice (some ⟨gW, 0, none⟩) n n, .slice (some ⟨gW, 6, none⟩) (n - 6) (n - 6), .func (.func 64) #[] #[.pointer (some ⟨Bs, 0, none⟩), .pointer (some ⟨Bs + 1, 0, none⟩)], .slice (some ⟨gW, 6 + x.1 * 4, none⟩) 4 4, undef, undef, undef, undef, undef, undef, undef, undef, undef, undef, undef, undef, undef, undef, undef, undef, undef, undef, undef, undef, undef, undef], defers := [] }) ?assign ?body ?done ?stop
      case assign =>
        intro lp x W K hK
        gi_wp2
        exact hK
      case stop =>
        rintro D c pre W _ _ h _
        exact h.elim
      case body =>
        rintro lp pre x W ⟨⟨⟨⟨v, hF, hrow⟩, b1⟩, b2⟩, hB⟩ hlt
        have hsl : ∃ Av cv, v = .slice Av pre.length cv := by
          rcases hrow with ⟨_, ⟨h, h0⟩ | ⟨g, cap, cur, h, _⟩⟩
          · exact ⟨none, 0, by rw [h, h0]⟩
          · exact ⟨_, _, h⟩
        obtain ⟨Av, cv, rfl⟩ := hsl
        have hq : pre.length ≤ 700 := by have := HNM.out; omega
        have HX4 : Hid (6 + x.1 * 4 + 4 ≤ Ws.length) := Lib.hid (by have := x.2; have := HN.out; have := HNM.out; omega)
        have e0 : w3.cell? ⟨gW, 6 + x.1 * 4, none⟩ = some (.string ⟨(Ws[6 + x.1 * 4]'(by have := HX4.out; omega)).toArray⟩) := HCE.out (6 + x.1 * 4) (by have := HX4.out; omega)
        have e1 : w3.cell? ⟨gW, 6 + x.1 * 4 + 1, none⟩ = some (.string ⟨(Ws[6 + x.1 * 4 + 1]'(by have := HX4.out; omega)).toArray⟩) := HCE.out (6 + x.1 * 4 + 1) (by have := HX4.out; omega)
        have e2 : w3.cell? ⟨gW, 6 + x.1 * 4 + 2, none⟩ = some (.string ⟨(Ws[6 + x.1 * 4 + 2]'(by have := HX4.out; omega)).toArray⟩) := HCE.out (6 + x.1 * 4 + 2) (by have := HX4.out; omega)
        have e3 : w3.cell? ⟨gW, 6 + x.1 * 4 + 3, none⟩ = some (.string ⟨(Ws[6 + x.1 * 4 + 3]'(by have := HX4.out; omega)).toArray⟩) := HCE.out (6 + x.1 * 4 + 3) (by have := HX4.out; omega)
        have hLX : Pl.lnAt Pl.nuP (Ws.drop 6) x.1 = ⟨⟨(Ws[6 + x.1 * 4]'(by have := HX4.out; omega)).toArray⟩, Pl.nuP (Ws[6 + x.1 * 4 + 1]'(by have := HX4.out; omega)), Pl.nuP (Ws[6 + x.1 * 4 + 2]'(by have := HX4.out; omega)), Pl.nuP (Ws[6 + x.1 * 4 + 3]'(by have := HX4.out; omega))⟩ := by
          have hgd : ∀ k (hk : 6 + k < Ws.length), (Ws.drop 6).getD k [] = Ws[6 + k] := fun k hk => by
            rw [List.getD_eq_getElem?_getD, List.getElem?_drop, List.getElem?_eq_getElem hk]; rfl
          unfold Pl.lnAt
          rw [hgd _ (by have := HX4.out; omega), hgd _ (by have := HX4.out; omega), hgd _ (by have := HX4.out; omega), hgd _ (by have := HX4.out; omega)]
          rfl
        have HSN := Lib.hid (Pl.dL_snoc Pl.nuP (Ws.drop 6) pre x)
        rw [hLX] at HSN
        have HNb := Lib.hid (fun W hW => number_any ⟨(Ws[6 + x.1 * 4 + 1]'(by have := HX4.out; omega)).toArray⟩ (by rw [bsz]; have := HWL.out _ (List.getElem_mem (by have := HX4.out; omega : 6 + x.1 * 4 + 1 < Ws.length)); omega) W hW)
        have HNc := Lib.hid (fun W hW => number_any ⟨(Ws[6 + x.1 * 4 + 2]'(by have := HX4.out; omega)).toArray⟩ (by rw [bsz]; have := HWL.out _ (List.getElem_mem (by have := HX4.out; omega : 6 + x.1 * 4 + 2 < Ws.length)); omega) W hW)
        have HNd := Lib.hid (fun W hW => number_any ⟨(Ws[6 + x.1 * 4 + 3]'(by have := HX4.out; omega)).toArray⟩ (by rw [bsz]; have := HWL.out _ (List.getElem_mem (by have := HX4.out; omega : 6 + x.1 * 4 + 3 < Ws.length)); omega) W hW)
        have hby : ∀ l : List UInt8, Pl.byt (⟨l.toArray⟩ : ByteArray) = l := fun l => by unfold Pl.byt; simp
        rw [hby] at HNb HNc HNd
        clear hLX hby
        generalize (Ws[6 + x.1 * 4]'(by have := HX4.out; omega)) = wa0 at *
        generalize (Ws[6 + x.1 * 4 + 1]'(by have := HX4.out; omega)) = wb at *
        generalize (Ws[6 + x.1 * 4 + 2]'(by have := HX4.out; omega)) = wc at *
        generalize (Ws[6 + x.1 * 4 + 3]'(by have := HX4.out; omega)) = wd at *
        clear HX4
        generalize Pl.nuP wb = nb at *
        generalize Pl.nuP wc = nc at *
        generalize Pl.nuP wd = nd at *
        generalize 6 + x.1 * 4 = o at *
        have HPL : Hid ((pre ++ [x]).length = pre.length + 1) := Lib.hid (by simp)
        have hS : Below w3.heap.size w3 (World.drew W) := hB.drew
        have HR0 : Hid (RdF w3 W gF Bs W0'.heap.size (fun v : Value => #[.string ⟨cus.toArray⟩, .int .i64 dy, .string ⟨cur.toArray⟩, v]) (.slice (some ⟨gW, 6, none⟩) (n - 6) (n - 6)) (.slice Av pre.length cv) pre.length (flt lnL (Pl.dL Pl.nuP (Ws.drop 6) pre)) (World.drew W)) := Lib.hid ⟨hF, hrow, b1, b2, hB.drew, (Below.refl _ W).drew, (KeepsOthers.drew W).from _⟩
        have Hb1 := Lib.hid b1
        have Hb2 := Lib.hid b2
        clear hF hrow b1 b2 hB hlt
        gi_wp2
        refine wpIn_region_held (S := fun V9 => Below w3.heap.size w3 V9) (by kernel_rfl) (by decide +kernel) (fun _ _ h => h) ?_
        change wpAnyH _ _ _ _ _ _ _ _ (World.drew _)
        generalize World.drew W = V0 at *
        refine takeD (i := 0) (d := (some 39)) (v := ?_) rfl rfl (by kernel_rfl) (by decide +kernel) (by decide +kernel) (fun _ _ _ h => h) (Or.inl ⟨by first | kernel_rfl | rfl, ?_⟩) hS ?_
        rotate_left
        · intro w' hT; have p0 := (Below.cell hT (p := ⟨gW, o, none⟩) hgl).trans e0; have p1 := (Below.cell hT (p := ⟨gW, o + 1, none⟩) hgl).trans e1; have p2 := (Below.cell hT (p := ⟨gW, o + 2, none⟩) hgl).trans e2; have p3 := (Below.cell hT (p := ⟨gW, o + 3, none⟩) hgl).trans e3; first | (go_simp; done) | (go_simp; with_reducible rfl)
        refine takeD (i := 2) (d := (some 41)) (v := ?_) rfl rfl (by kernel_rfl) (by decide +kernel) (by decide +kernel) (fun _ _ _ h => h) (Or.inl ⟨by first | kernel_rfl | rfl, ?_⟩) hS ?_
        rotate_left
        · intro w' hT; have p0 := (Below.cell hT (p := ⟨gW, o, none⟩) hgl).trans e0; have p1 := (Below.cell hT (p := ⟨gW, o + 1, none⟩) hgl).trans e1; have p2 := (Below.cell hT (p := ⟨gW, o + 2, none⟩) hgl).trans e2; have p3 := (Below.cell hT (p := ⟨gW, o + 3, none⟩) hgl).trans e3; first | (go_simp; done) | (go_simp; with_reducible rfl)
        refine takeD (i := 3) (d := (some 42)) (v := ?_) rfl rfl (by kernel_rfl) (by decide +kernel) (by decide +kernel) (fun _ _ _ h => h) (Or.inl ⟨by first | kernel_rfl | rfl, ?_⟩) hS ?_
        rotate_left
        · intro w' hT; have p0 := (Below.cell hT (p := ⟨gW, o, none⟩) hgl).trans e0; have p1 := (Below.cell hT (p := ⟨gW, o + 1, none⟩) hgl).trans e1; have p2 := (Below.cell hT (p := ⟨gW, o + 2, none⟩) hgl).trans e2; have p3 := (Below.cell hT (p := ⟨gW, o + 3, none⟩) hgl).trans e3; first | (go_simp; done) | (go_simp; with_reducible rfl)
        refine takeD (i := 4) (d := (some 43)) (v := ?_) rfl rfl (by kernel_rfl) (by decide +kernel) (by decide +kernel) (fun _ _ _ h => h) (Or.inl ⟨by first | kernel_rfl | rfl, ?_⟩) hS ?_
        rotate_left
        · intro w' hT; have p0 := (Below.cell hT (p := ⟨gW, o, none⟩) hgl).trans e0; have p1 := (Below.cell hT (p := ⟨gW, o + 1, none⟩) hgl).trans e1; have p2 := (Below.cell hT (p := ⟨gW, o + 2, none⟩) hgl).trans e2; have p3 := (Below.cell hT (p := ⟨gW, o + 3, none⟩) hgl).trans e3; first | (go_simp; done) | (go_simp; with_reducible rfl)
        refine takeD (i := 5) (d := (some 44)) (v := ?_) rfl rfl (by kernel_rfl) (by decide +kernel) (by decide +kernel) (fun _ _ _ h => h) (Or.inl ⟨by first | kernel_rfl | rfl, ?_⟩) hS ?_
        rotate_left
        · intro w' hT; have p0 := (Below.cell hT (p := ⟨gW, o, none⟩) hgl).trans e0; have p1 := (Below.cell hT (p := ⟨gW, o + 1, none⟩) hgl).trans e1; have p2 := (Below.cell hT (p := ⟨gW, o + 2, none⟩) hgl).trans e2; have p3 := (Below.cell hT (p := ⟨gW, o + 3, none⟩) hgl).trans e3; first | (go_simp; done) | (go_simp; with_reducible rfl)
        refine takeD (i := 6) (d := (some 45)) (v := ?_) rfl rfl (by kernel_rfl) (by decide +kernel) (by decide +kernel) (fun _ _ _ h => h) (Or.inl ⟨by first | kernel_rfl | rfl, ?_⟩) hS ?_
        rotate_left
        · intro w' hT; have p0 := (Below.cell hT (p := ⟨gW, o, none⟩) hgl).trans e0; have p1 := (Below.cell hT (p := ⟨gW, o + 1, none⟩) hgl).trans e1; have p2 := (Below.cell hT (p := ⟨gW, o + 2, none⟩) hgl).trans e2; have p3 := (Below.cell hT (p := ⟨gW, o + 3, none⟩) hgl).trans e3; first | (go_simp; done) | (go_simp; with_reducible rfl)
        refine takeD (i := 7) (d := (some 46)) (v := ?_) rfl rfl (by kernel_rfl) (by decide +kernel) (by decide +kernel) (fun _ _ _ h => h) (Or.inl ⟨by first | kernel_rfl | rfl, ?_⟩) hS ?_
        rotate_left
        · intro w' hT; have p0 := (Below.cell hT (p := ⟨gW, o, none⟩) hgl).trans e0; have p1 := (Below.cell hT (p := ⟨gW, o + 1, none⟩) hgl).trans e1; have p2 := (Below.cell hT (p := ⟨gW, o + 2, none⟩) hgl).trans e2; have p3 := (Below.cell hT (p := ⟨gW, o + 3, none⟩) hgl).trans e3; first | (go_simp; done) | (go_simp; with_reducible rfl)
        refine takeD (i := 9) (d := (some 48)) (v := ?_) rfl rfl (by kernel_rfl) (by decide +kernel) (by decide +kernel) (fun _ _ _ h => h) (Or.inl ⟨by first | kernel_rfl | rfl, ?_⟩) hS ?_
        rotate_left
        · intro w' hT; have p0 := (Below.cell hT (p := ⟨gW, o, none⟩) hgl).trans e0; have p1 := (Below.cell hT (p := ⟨gW, o + 1, none⟩) hgl).trans e1; have p2 := (Below.cell hT (p := ⟨gW, o + 2, none⟩) hgl).trans e2; have p3 := (Below.cell hT (p := ⟨gW, o + 3, none⟩) hgl).trans e3; first | (go_simp; done) | (go_simp; with_reducible rfl)
        refine takeD (i := 10) (d := (some 49)) (v := ?_) rfl rfl (by kernel_rfl) (by decide +kernel) (by decide +kernel) (fun _ _ _ h => h) (Or.inl ⟨by first | kernel_rfl | rfl, ?_⟩) hS ?_
        rotate_left
        · intro w' hT; have p0 := (Below.cell hT (p := ⟨gW, o, none⟩) hgl).trans e0; have p1 := (Below.cell hT (p := ⟨gW, o + 1, none⟩) hgl).trans e1; have p2 := (Below.cell hT (p := ⟨gW, o + 2, none⟩) hgl).trans e2; have p3 := (Below.cell hT (p := ⟨gW, o + 3, none⟩) hgl).trans e3; first | (go_simp; done) | (go_simp; with_reducible rfl)
        refine takeD (i := 11) (d := (some 50)) (v := ?_) rfl rfl (by kernel_rfl) (by decide +kernel) (by decide +kernel) (fun _ _ _ h => h) (Or.inl ⟨by first | kernel_rfl | rfl, ?_⟩) hS ?_
        rotate_left
        · intro w' hT; have p0 := (Below.cell hT (p := ⟨gW, o, none⟩) hgl).trans e0; have p1 := (Below.cell hT (p := ⟨gW, o + 1, none⟩) hgl).trans e1; have p2 := (Below.cell hT (p := ⟨gW, o + 2, none⟩) hgl).trans e2; have p3 := (Below.cell hT (p := ⟨gW, o + 3, none⟩) hgl).trans e3; first | (go_simp; done) | (go_simp; with_reducible rfl)
        refine takeD (i := 13) (d := (some 52)) (v := ?_) rfl rfl (by kernel_rfl) (by decide +kernel) (by decide +kernel) (fun _ _ _ h => h) (Or.inl ⟨by first | kernel_rfl | rfl, ?_⟩) hS ?_
        rotate_left
        · intro w' hT; have p0 := (Below.cell hT (p := ⟨gW, o, none⟩) hgl).trans e0; have p1 := (Below.cell hT (p := ⟨gW, o + 1, none⟩) hgl).trans e1; have p2 := (Below.cell hT (p := ⟨gW, o + 2, none⟩) hgl).trans e2; have p3 := (Below.cell hT (p := ⟨gW, o + 3, none⟩) hgl).trans e3; first | (go_simp; done) | (go_simp; with_reducible rfl)
        refine takeD (i := 14) (d := (some 53)) (v := ?_) rfl rfl (by kernel_rfl) (by decide +kernel) (by decide +kernel) (fun _ _ _ h => h) (Or.inl ⟨by first | kernel_rfl | rfl, ?_⟩) hS ?_
        rotate_left
        · intro w' hT; have p0 := (Below.cell hT (p := ⟨gW, o, none⟩) hgl).trans e0; have p1 := (Below.cell hT (p := ⟨gW, o + 1, none⟩) hgl).trans e1; have p2 := (Below.cell hT (p := ⟨gW, o + 2, none⟩) hgl).trans e2; have p3 := (Below.cell hT (p := ⟨gW, o + 3, none⟩) hgl).trans e3; first | (go_simp; done) | (go_simp; with_reducible rfl)
        refine takeD (i := 15) (d := (some 54)) (v := ?_) rfl rfl (by kernel_rfl) (by decide +kernel) (by decide +kernel) (fun _ _ _ h => h) (Or.inl ⟨by first | kernel_rfl | rfl, ?_⟩) hS ?_
        rotate_left
        · intro w' hT; have p0 := (Below.cell hT (p := ⟨gW, o, none⟩) hgl).trans e0; have p1 := (Below.cell hT (p := ⟨gW, o + 1, none⟩) hgl).trans e1; have p2 := (Below.cell hT (p := ⟨gW, o + 2, none⟩) hgl).trans e2; have p3 := (Below.cell hT (p := ⟨gW, o + 3, none⟩) hgl).trans e3; first | (go_simp; done) | (go_simp; with_reducible rfl)
        refine actNorm (fun a' ha => ?_); (try simp [go_sem] at ha); subst ha
        refine wpAnyH_all (rs := [1, 8]) (by decide +kernel) (by simp) ?_
        intro i0 hi0
        obtain rfl | rfl : i0 = 1 ∨ i0 = 8 := by simpa using hi0
        clear hi0
        · skip
          refine wpOp_goE rfl (by kernel_rfl) (fun K hK => ?_)
          have c3 : V0.cell? ⟨gF, 3, none⟩ = some (.slice Av pre.length cv) := HR0.out.f.cell 3
          go_simp
          refine hK _ _ ⟨hS, ?_⟩
          clear hK K
          clear c3
          refine actNorm (fun a' ha => ?_); (try simp [go_sem] at ha); subst ha
          refine wpAnyH_all (rs := [8]) (by decide +kernel) (by simp) ?_
          intro i0 hi0
          have hi1 := List.mem_singleton.1 hi0
          clear hi0
          subst hi1
          refine wpOp_goE rfl (by kernel_rfl) (fun K hK => ?_)
          go_simp
          refine (HNb.out _ (HE3.out.below hS)).mono ?_
          rintro e V1 ⟨rfl, hb1⟩
          have HR1 := Lib.hid (HR0.out.below hb1)
          have hS := HR1.out.lo
          clear hb1 HR0
          refine hK _ _ ⟨hS, ?_⟩
          clear hK K
          refine actNorm (fun a' ha => ?_); (try simp [go_sem] at ha); subst ha
          refine wpAnyH_all (rs := [12]) (by decide +kernel) (by simp) ?_
          intro i0 hi0
          have hi1 := List.mem_singleton.1 hi0
          clear hi0
          subst hi1
          refine wpOp_goE rfl (by kernel_rfl) (fun K hK => ?_)
          go_simp
          refine (HNc.out _ (HE3.out.below hS)).mono ?_
          rintro e V2 ⟨rfl, hb1⟩
          have HR2 := Lib.hid (HR1.out.below hb1)
          have hS := HR2.out.lo
          clear hb1 HR1
          refine hK _ _ ⟨hS, ?_⟩
          clear hK K
          refine actNorm (fun a' ha => ?_); (try simp [go_sem] at ha); subst ha
          refine wpAnyH_all (rs := [16]) (by decide +kernel) (by simp) ?_
          intro i0 hi0
          have hi1 := List.mem_singleton.1 hi0
          clear hi0
          subst hi1
          refine wpOp_goE rfl (by kernel_rfl) (fun K hK => ?_)
          go_simp
          refine (HNd.out _ (HE3.out.below hS)).mono ?_
          rintro e V3 ⟨rfl, hb1⟩
          have HR3 := Lib.hid (HR2.out.below hb1)
          have hS := HR3.out.lo
          clear hb1 HR2
          refine hK _ _ ⟨hS, ?_⟩
          clear hK K
          refine actNorm (fun a' ha => ?_); (try simp [go_sem] at ha); subst ha
          refine takeD (i := 17) (d := (some 56)) (v := ?_) rfl rfl (by kernel_rfl) (by decide +kernel) (by decide +kernel) (fun _ _ _ h => h) (Or.inl ⟨by first | kernel_rfl | rfl, ?_⟩) hS ?_
          rotate_left
          · intro w' hT; first | (go_simp; done) | (go_simp; with_reducible rfl)
          refine actNorm (fun a' ha => ?_); (try simp [go_sem] at ha); subst ha
          refine wpAnyH_all (rs := [18]) (by decide +kernel) (by simp) ?_
          intro i0 hi0
          have hi1 := List.mem_singleton.1 hi0
          clear hi0
          subst hi1
          refine wpOp_goE rfl (by kernel_rfl) (fun K hK => ?_)
          go_simp
          have hnew : ∀ j u, (lnL ⟨⟨wa0.toArray⟩, nb, nc, nd⟩)[j]? = some u → (V3.alloc (.cells #[.string ⟨wa0.toArray⟩, .int .i64 nb, .int .i64 nc, .int .i64 nd] 45)).cell? ((⟨V3.heap.size, 0, none⟩ : Addr).add j) = some u := new_cells' V3 45 (lnL ⟨⟨wa0.toArray⟩, nb, nc, nd⟩) rfl
          have HRa := Lib.hid (HR3.out.alloc (.cells #[.string ⟨wa0.toArray⟩, .int .i64 nb, .int .i64 nc, .int .i64 nd] 45))
          have hS := HRa.out.lo
          clear HR3
          refine hK _ _ ⟨hS, ?_⟩
          clear hK K
          generalize V3.alloc (.cells #[.string ⟨wa0.toArray⟩, .int .i64 nb, .int .i64 nc, .int .i64 nd] 45) = wA at *
          generalize V3.heap.size = nA at *
          refine actNorm (fun a' ha => ?_); (try simp [go_sem] at ha); subst ha
          refine wpAnyH_all (rs := [19]) (by decide +kernel) (by simp) ?_
          intro i0 hi0
          have hi1 := List.mem_singleton.1 hi0
          clear hi0
          subst hi1
          refine wpOp_goE rfl (by kernel_rfl) (fun K hK => ?_)
          refine wp_append_own _ _ _ 22 rfl w3.heap.size 45 i0 _ 4 40 Tryz.underlying22 hi hz0 hz1 hz2 rfl (by decide) _ _ _ rfl HRa.out.o ⟨nA, 0, none⟩ 1 1 (lnL ⟨⟨wa0.toArray⟩, nb, nc, nd⟩) rfl rfl hnew (encLn.one _) (by unfold maxLen; omega) (by omega) hS.size ?_
          intro v9 w9 own9 hg9 _
          have hsh : ∃ A c, v9 = .slice A (pre.length + 1) c := by
            rcases own9 with ⟨_, ⟨h, h0⟩ | ⟨g', cap, cur, h, _⟩⟩
            · omega
            · exact ⟨_, _, h⟩
          obtain ⟨A9, c9, rfl⟩ := hsh
          have hS9 : Below w3.heap.size w3 w9 := hS.grown hg9 hS.size (fun s e => (HRa.out.o.lt s e).1)
          have f9 := HRa.out.f.grownBy hg9 (own_ne_blk HRa.out.o HRa.out.f tNF)
          have HR9 := Lib.hid (HRa.out.more own9 hg9 hgF (by omega) (by omega))
          refine hK _ _ ⟨hS9, ?_⟩
          clear hK K
          clear hnew hg9 own9 HRa
          have z9 := f9.frozen 3
          have k9 := f9.cell 3
          refine actNorm (fun a' ha => ?_); (try simp [go_sem] at ha); subst ha
          refine wpAnyH_all (rs := [20]) (by decide +kernel) (by simp) ?_
          intro i0 hi0
          have hi1 := List.mem_singleton.1 hi0
          clear hi0
          subst hi1
          refine wpOp_goE rfl (by kernel_rfl) (fun K hK => ?_)
          go_simp
          refine hK _ _ ⟨hS9, ?_⟩
          clear hK K
          refine actNorm (fun a' ha => ?_); (try simp [go_sem] at ha); subst ha
          refine wpAnyH_all (rs := [21]) (by decide +kernel) (by simp) ?_
          intro i0 hi0
          have hi1 := List.mem_singleton.1 hi0
          clear hi0
          subst hi1
          refine wpOp_goE rfl (by kernel_rfl) (fun K hK => ?_)
          go_simp
          have hS10 := HR9.out.lo
          refine hK _ _ ⟨hS10, ?_⟩
          clear hK K
          refine wpAnyH_done (by decide +kernel) ?_ _
          have h9 := HR9.out
          exact ⟨h9.kf, ⟨h9.at', h9.b1.trans Hb1.out.symm, h9.b2.trans Hb2.out.symm⟩, ⟨⟨⟨_, h9.f, by rw [HPL.out, HSN.out, flt_append, flt_one]; exact h9.o⟩, h9.b1⟩, h9.b2⟩, h9.lo⟩
        · skip
          refine wpOp_goE rfl (by kernel_rfl) (fun K hK => ?_)
          go_simp
          refine (HNb.out _ (HE3.out.below hS)).mono ?_
          rintro e V1 ⟨rfl, hb1⟩
          have HR1 := Lib.hid (HR0.out.below hb1)
          have hS := HR1.out.lo
          clear hb1 HR0
          refine hK _ _ ⟨hS, ?_⟩
          clear hK K
          refine actNorm (fun a' ha => ?_); (try simp [go_sem] at ha); subst ha
          refine wpAnyH_all (rs := [1, 12]) (by decide +kernel) (by simp) ?_
          intro i0 hi0
          obtain rfl | rfl : i0 = 1 ∨ i0 = 12 := by simpa using hi0
          clear hi0
          · skip
            refine wpOp_goE rfl (by kernel_rfl) (fun K hK => ?_)
            have c3 : V1.cell? ⟨gF, 3, none⟩ = some (.slice Av pre.length cv) := HR1.out.f.cell 3
            go_simp
            refine hK _ _ ⟨hS, ?_⟩
            clear hK K
            clear c3
            refine actNorm (fun a' ha => ?_); (try simp [go_sem] at ha); subst ha
            refine wpAnyH_all (rs := [12]) (by decide +kernel) (by simp) ?_
            intro i0 hi0
            have hi1 := List.mem_singleton.1 hi0
            clear hi0
            subst hi1
            refine wpOp_goE rfl (by kernel_rfl) (fun K hK => ?_)
            go_simp
            refine (HNc.out _ (HE3.out.below hS)).mono ?_
            rintro e V2 ⟨rfl, hb1⟩
            have HR2 := Lib.hid (HR1.out.below hb1)
            have hS := HR2.out.lo
            clear hb1 HR1
            refine hK _ _ ⟨hS, ?_⟩
            clear hK K
            refine actNorm (fun a' ha => ?_); (try simp [go_sem] at ha); subst ha
            refine wpAnyH_all (rs := [16]) (by decide +kernel) (by simp) ?_
            intro i0 hi0
            have hi1 := List.mem_singleton.1 hi0
            clear hi0
            subst hi1
            refine wpOp_goE rfl (by kernel_rfl) (fun K hK => ?_)
            go_simp
            refine (HNd.out _ (HE3.out.below hS)).mono ?_
            rintro e V3 ⟨rfl, hb1⟩
            have HR3 := Lib.hid (HR2.out.below hb1)
            have hS := HR3.out.lo
            clear hb1 HR2
            refine hK _ _ ⟨hS, ?_⟩
            clear hK K
            refine actNorm (fun a' ha => ?_); (try simp [go_sem] at ha); subst ha
            refine takeD (i := 17) (d := (some 56)) (v := ?_) rfl rfl (by kernel_rfl) (by decide +kernel) (by decide +kernel) (fun _ _ _ h => h) (Or.inl ⟨by first | kernel_rfl | rfl, ?_⟩) hS ?_
            rotate_left
            · intro w' hT; first | (go_simp; done) | (go_simp; with_reducible rfl)
            refine actNorm (fun a' ha => ?_); (try simp [go_sem] at ha); subst ha
            refine wpAnyH_all (rs := [18]) (by decide +kernel) (by simp) ?_
            intro i0 hi0
            have hi1 := List.mem_singleton.1 hi0
            clear hi0
            subst hi1
            refine wpOp_goE rfl (by kernel_rfl) (fun K hK => ?_)
            go_simp
            have hnew : ∀ j u, (lnL ⟨⟨wa0.toArray⟩, nb, nc, nd⟩)[j]? = some u → (V3.alloc (.cells #[.string ⟨wa0.toArray⟩, .int .i64 nb, .int .i64 nc, .int .i64 nd] 45)).cell? ((⟨V3.heap.size, 0, none⟩ : Addr).add j) = some u := new_cells' V3 45 (lnL ⟨⟨wa0.toArray⟩, nb, nc, nd⟩) rfl
            have HRa := Lib.hid (HR3.out.alloc (.cells #[.string ⟨wa0.toArray⟩, .int .i64 nb, .int .i64 nc, .int .i64 nd] 45))
            have hS := HRa.out.lo
            clear HR3
            refine hK _ _ ⟨hS, ?_⟩
            clear hK K
            generalize V3.alloc (.cells #[.string ⟨wa0.toArray⟩, .int .i64 nb, .int .i64 nc, .int .i64 nd] 45) = wA at *
            generalize V3.heap.size = nA at *
            refine actNorm (fun a' ha => ?_); (try simp [go_sem] at ha); subst ha
            refine wpAnyH_all (rs := [19]) (by decide +kernel) (by simp) ?_
            intro i0 hi0
            have hi1 := List.mem_singleton.1 hi0
            clear hi0
            subst hi1
            refine wpOp_goE rfl (by kernel_rfl) (fun K hK => ?_)
            refine wp_append_own _ _ _ 22 rfl w3.heap.size 45 i0 _ 4 40 Tryz.underlying22 hi hz0 hz1 hz2 rfl (by decide) _ _ _ rfl HRa.out.o ⟨nA, 0, none⟩ 1 1 (lnL ⟨⟨wa0.toArray⟩, nb, nc, nd⟩) rfl rfl hnew (encLn.one _) (by unfold maxLen; omega) (by omega) hS.size ?_
            intro v9 w9 own9 hg9 _
            have hsh : ∃ A c, v9 = .slice A (pre.length + 1) c := by
              rcases own9 with ⟨_, ⟨h, h0⟩ | ⟨g', cap, cur, h, _⟩⟩
              · omega
              · exact ⟨_, _, h⟩
            obtain ⟨A9, c9, rfl⟩ := hsh
            have hS9 : Below w3.heap.size w3 w9 := hS.grown hg9 hS.size (fun s e => (HRa.out.o.lt s e).1)
            have f9 := HRa.out.f.grownBy hg9 (own_ne_blk HRa.out.o HRa.out.f tNF)
            have HR9 := Lib.hid (HRa.out.more own9 hg9 hgF (by omega) (by omega))
            refine hK _ _ ⟨hS9, ?_⟩
            clear hK K
            clear hnew hg9 own9 HRa
            have z9 := f9.frozen 3
            have k9 := f9.cell 3
            refine actNorm (fun a' ha => ?_); (try simp [go_sem] at ha); subst ha
            refine wpAnyH_all (rs := [20]) (by decide +kernel) (by simp) ?_
            intro i0 hi0
            have hi1 := List.mem_singleton.1 hi0
            clear hi0
            subst hi1
            refine wpOp_goE rfl (by kernel_rfl) (fun K hK => ?_)
            go_simp
            refine hK _ _ ⟨hS9, ?_⟩
            clear hK K
            refine actNorm (fun a' ha => ?_); (try simp [go_sem] at ha); subst ha
            refine wpAnyH_all (rs := [21]) (by decide +kernel) (by simp) ?_
            intro i0 hi0
            have hi1 := List.mem_singleton.1 hi0
            clear hi0
            subst hi1
            refine wpOp_goE rfl (by kernel_rfl) (fun K hK => ?_)
            go_simp
            have hS10 := HR9.out.lo
            refine hK _ _ ⟨hS10, ?_⟩
            clear hK K
            refine wpAnyH_done (by decide +kernel) ?_ _
            have h9 := HR9.out
            exact ⟨h9.kf, ⟨h9.at', h9.b1.trans Hb1.out.symm, h9.b2.trans Hb2.out.symm⟩, ⟨⟨⟨_, h9.f, by rw [HPL.out, HSN.out, flt_append, flt_one]; exact h9.o⟩, h9.b1⟩, h9.b2⟩, h9.lo⟩
          · skip
            refine wpOp_goE rfl (by kernel_rfl) (fun K hK => ?_)
            go_simp
            refine (HNc.out _ (HE3.out.below hS)).mono ?_
            rintro e V2 ⟨rfl, hb1⟩
            have HR2 := Lib.hid (HR1.out.below hb1)
            have hS := HR2.out.lo
            clear hb1 HR1
            refine hK _ _ ⟨hS, ?_⟩
            clear hK K
            refine actNorm (fun a' ha => ?_); (try simp [go_sem] at ha); subst ha
            refine wpAnyH_all (rs := [1, 16]) (by decide +kernel) (by simp) ?_
            intro i0 hi0
            obtain rfl | rfl : i0 = 1 ∨ i0 = 16 := by simpa using hi0
            clear hi0
            · skip
              refine wpOp_goE rfl (by kernel_rfl) (fun K hK => ?_)
              have c3 : V2.cell? ⟨gF, 3, none⟩ = some (.slice Av pre.length cv) := HR2.out.f.cell 3
              go_simp
              refine hK _ _ ⟨hS, ?_⟩
              clear hK K
              clear c3
              refine actNorm (fun a' ha => ?_); (try simp [go_sem] at ha); subst ha
              refine wpAnyH_all (rs := [16]) (by decide +kernel) (by simp) ?_
              intro i0 hi0
              have hi1 := List.mem_singleton.1 hi0
              clear hi0
              subst hi1
              refine wpOp_goE rfl (by kernel_rfl) (fun K hK => ?_)
              go_simp
              refine (HNd.out _ (HE3.out.below hS)).mono ?_
              rintro e V3 ⟨rfl, hb1⟩
              have HR3 := Lib.hid (HR2.out.below hb1)
              have hS := HR3.out.lo
              clear hb1 HR2
              refine hK _ _ ⟨hS, ?_⟩
              clear hK K
              refine actNorm (fun a' ha => ?_); (try simp [go_sem] at ha); subst ha
              refine takeD (i := 17) (d := (some 56)) (v := ?_) rfl rfl (by kernel_rfl) (by decide +kernel) (by decide +kernel) (fun _ _ _ h => h) (Or.inl ⟨by first | kernel_rfl | rfl, ?_⟩) hS ?_
              rotate_left
              · intro w' hT; first | (go_simp; done) | (go_simp; with_reducible rfl)
              refine actNorm (fun a' ha => ?_); (try simp [go_sem] at ha); subst ha
              refine wpAnyH_all (rs := [18]) (by decide +kernel) (by simp) ?_
              intro i0 hi0
              have hi1 := List.mem_singleton.1 hi0
              clear hi0
              subst hi1
              refine wpOp_goE rfl (by kernel_rfl) (fun K hK => ?_)
              go_simp
              have hnew : ∀ j u, (lnL ⟨⟨wa0.toArray⟩, nb, nc, nd⟩)[j]? = some u → (V3.alloc (.cells #[.string ⟨wa0.toArray⟩, .int .i64 nb, .int .i64 nc, .int .i64 nd] 45)).cell? ((⟨V3.heap.size, 0, none⟩ : Addr).add j) = some u := new_cells' V3 45 (lnL ⟨⟨wa0.toArray⟩, nb, nc, nd⟩) rfl
              have HRa := Lib.hid (HR3.out.alloc (.cells #[.string ⟨wa0.toArray⟩, .int .i64 nb, .int .i64 nc, .int .i64 nd] 45))
              have hS := HRa.out.lo
              clear HR3
              refine hK _ _ ⟨hS, ?_⟩
              clear hK K
              generalize V3.alloc (.cells #[.string ⟨wa0.toArray⟩, .int .i64 nb, .int .i64 nc, .int .i64 nd] 45) = wA at *
              generalize V3.heap.size = nA at *
              refine actNorm (fun a' ha => ?_); (try simp [go_sem] at ha); subst ha
              refine wpAnyH_all (rs := [19]) (by decide +kernel) (by simp) ?_
              intro i0 hi0
              have hi1 := List.mem_singleton.1 hi0
              clear hi0
              subst hi1
              refine wpOp_goE rfl (by kernel_rfl) (fun K hK => ?_)
              refine wp_append_own _ _ _ 22 rfl w3.heap.size 45 i0 _ 4 40 Tryz.underlying22 hi hz0 hz1 hz2 rfl (by decide) _ _ _ rfl HRa.out.o ⟨nA, 0, none⟩ 1 1 (lnL ⟨⟨wa0.toArray⟩, nb, nc, nd⟩) rfl rfl hnew (encLn.one _) (by unfold maxLen; omega) (by omega) hS.size ?_
              intro v9 w9 own9 hg9 _
              have hsh : ∃ A c, v9 = .slice A (pre.length + 1) c := by
                rcases own9 with ⟨_, ⟨h, h0⟩ | ⟨g', cap, cur, h, _⟩⟩
                · omega
                · exact ⟨_, _, h⟩
              obtain ⟨A9, c9, rfl⟩ := hsh
              have hS9 : Below w3.heap.size w3 w9 := hS.grown hg9 hS.size (fun s e => (HRa.out.o.lt s e).1)
              have f9 := HRa.out.f.grownBy hg9 (own_ne_blk HRa.out.o HRa.out.f tNF)
              have HR9 := Lib.hid (HRa.out.more own9 hg9 hgF (by omega) (by omega))
              refine hK _ _ ⟨hS9, ?_⟩
              clear hK K
              clear hnew hg9 own9 HRa
              have z9 := f9.frozen 3
              have k9 := f9.cell 3
              refine actNorm (fun a' ha => ?_); (try simp [go_sem] at ha); subst ha
              refine wpAnyH_all (rs := [20]) (by decide +kernel) (by simp) ?_
              intro i0 hi0
              have hi1 := List.mem_singleton.1 hi0
              clear hi0
              subst hi1
              refine wpOp_goE rfl (by kernel_rfl) (fun K hK => ?_)
              go_simp
              refine hK _ _ ⟨hS9, ?_⟩
              clear hK K
              refine actNorm (fun a' ha => ?_); (try simp [go_sem] at ha); subst ha
              refine wpAnyH_all (rs := [21]) (by decide +kernel) (by simp) ?_
              intro i0 hi0
              have hi1 := List.mem_singleton.1 hi0
              clear hi0
              subst hi1
              refine wpOp_goE rfl (by kernel_rfl) (fun K hK => ?_)
              go_simp
              have hS10 := HR9.out.lo
              refine hK _ _ ⟨hS10, ?_⟩
              clear hK K
              refine wpAnyH_done (by decide +kernel) ?_ _
              have h9 := HR9.out
              exact ⟨h9.kf, ⟨h9.at', h9.b1.trans Hb1.out.symm, h9.b2.trans Hb2.out.symm⟩, ⟨⟨⟨_, h9.f, by rw [HPL.out, HSN.out, flt_append, flt_one]; exact h9.o⟩, h9.b1⟩, h9.b2⟩, h9.lo⟩
            · skip
              refine wpOp_goE rfl (by kernel_rfl) (fun K hK => ?_)
              go_simp
              refine (HNd.out _ (HE3.out.below hS)).mono ?_
              rintro e V3 ⟨rfl, hb1⟩
              have HR3 := Lib.hid (HR2.out.below hb1)
              have hS := HR3.out.lo
              clear hb1 HR2
              refine hK _ _ ⟨hS, ?_⟩
              clear hK K
              refine actNorm (fun a' ha => ?_); (try simp [go_sem] at ha); subst ha
              refine takeD (i := 17) (d := (some 56)) (v := ?_) rfl rfl (by kernel_rfl) (by decide +kernel) (by decide +kernel) (fun _ _ _ h => h) (Or.inl ⟨by first | kernel_rfl | rfl, ?_⟩) hS ?_
              rotate_left
              · intro w' hT; first | (go_simp; done) | (go_simp; with_reducible rfl)
              refine actNorm (fun a' ha => ?_); (try simp [go_sem] at ha); subst ha
              refine wpAnyH_all (rs := [1, 18]) (by decide +kernel) (by simp) ?_
              intro i0 hi0
              obtain rfl | rfl : i0 = 1 ∨ i0 = 18 := by simpa using hi0
              clear hi0
              · skip
                refine wpOp_goE rfl (by kernel_rfl) (fun K hK => ?_)
                have c3 : V3.cell? ⟨gF, 3, none⟩ = some (.slice Av pre.length cv) := HR3.out.f.cell 3
                go_simp
                refine hK _ _ ⟨hS, ?_⟩
                clear hK K
                clear c3
                refine actNorm (fun a' ha => ?_); (try simp [go_sem] at ha); subst ha
                refine wpAnyH_all (rs := [18]) (by decide +kernel) (by simp) ?_
                intro i0 hi0
                have hi1 := List.mem_singleton.1 hi0
                clear hi0
                subst hi1
                refine wpOp_goE rfl (by kernel_rfl) (fun K hK => ?_)
                go_simp
                have hnew : ∀ j u, (lnL ⟨⟨wa0.toArray⟩, nb, nc, nd⟩)[j]? = some u → (V3.alloc (.cells #[.string ⟨wa0.toArray⟩, .int .i64 nb, .int .i64 nc, .int .i64 nd] 45)).cell? ((⟨V3.heap.size, 0, none⟩ : Addr).add j) = some u := new_cells' V3 45 (lnL ⟨⟨wa0.toArray⟩, nb, nc, nd⟩) rfl
                have HRa := Lib.hid (HR3.out.alloc (.cells #[.string ⟨wa0.toArray⟩, .int .i64 nb, .int .i64 nc, .int .i64 nd] 45))
                have hS := HRa.out.lo
                clear HR3
                refine hK _ _ ⟨hS, ?_⟩
                clear hK K
                generalize V3.alloc (.cells #[.string ⟨wa0.toArray⟩, .int .i64 nb, .int .i64 nc, .int .i64 nd] 45) = wA at *
                generalize V3.heap.size = nA at *
                refine actNorm (fun a' ha => ?_); (try simp [go_sem] at ha); subst ha
                refine wpAnyH_all (rs := [19]) (by decide +kernel) (by simp) ?_
                intro i0 hi0
                have hi1 := List.mem_singleton.1 hi0
                clear hi0
                subst hi1
                refine wpOp_goE rfl (by kernel_rfl) (fun K hK => ?_)
                refine wp_append_own _ _ _ 22 rfl w3.heap.size 45 i0 _ 4 40 Tryz.underlying22 hi hz0 hz1 hz2 rfl (by decide) _ _ _ rfl HRa.out.o ⟨nA, 0, none⟩ 1 1 (lnL ⟨⟨wa0.toArray⟩, nb, nc, nd⟩) rfl rfl hnew (encLn.one _) (by unfold maxLen; omega) (by omega) hS.size ?_
                intro v9 w9 own9 hg9 _
                have hsh : ∃ A c, v9 = .slice A (pre.length + 1) c := by
                  rcases own9 with ⟨_, ⟨h, h0⟩ | ⟨g', cap, cur, h, _⟩⟩
                  · omega
                  · exact ⟨_, _, h⟩
                obtain ⟨A9, c9, rfl⟩ := hsh
                have hS9 : Below w3.heap.size w3 w9 := hS.grown hg9 hS.size (fun s e => (HRa.out.o.lt s e).1)
                have f9 := HRa.out.f.grownBy hg9 (own_ne_blk HRa.out.o HRa.out.f tNF)
                have HR9 := Lib.hid (HRa.out.more own9 hg9 hgF (by omega) (by omega))
                refine hK _ _ ⟨hS9, ?_⟩
                clear hK K
                clear hnew hg9 own9 HRa
                have z9 := f9.frozen 3
                have k9 := f9.cell 3
                refine actNorm (fun a' ha => ?_); (try simp [go_sem] at ha); subst ha
                refine wpAnyH_all (rs := [20]) (by decide +kernel) (by simp) ?_
                intro i0 hi0
                have hi1 := List.mem_singleton.1 hi0
                clear hi0
                subst hi1
                refine wpOp_goE rfl (by kernel_rfl) (fun K hK => ?_)
                go_simp
                refine hK _ _ ⟨hS9, ?_⟩
                clear hK K
                refine actNorm (fun a' ha => ?_); (try simp [go_sem] at ha); subst ha
                refine wpAnyH_all (rs := [21]) (by decide +kernel) (by simp) ?_
                intro i0 hi0
                have hi1 := List.mem_singleton.1 hi0
                clear hi0
                subst hi1
                refine wpOp_goE rfl (by kernel_rfl) (fun K hK => ?_)
                go_simp
                have hS10 := HR9.out.lo
                refine hK _ _ ⟨hS10, ?_⟩
                clear hK K
                refine wpAnyH_done (by decide +kernel) ?_ _
                have h9 := HR9.out
                exact ⟨h9.kf, ⟨h9.at', h9.b1.trans Hb1.out.symm, h9.b2.trans Hb2.out.symm⟩, ⟨⟨⟨_, h9.f, by rw [HPL.out, HSN.out, flt_append, flt_one]; exact h9.o⟩, h9.b1⟩, h9.b2⟩, h9.lo⟩
              · skip
                refine wpOp_goE rfl (by kernel_rfl) (fun K hK => ?_)
                go_simp
                have hnew : ∀ j u, (lnL ⟨⟨wa0.toArray⟩, nb, nc, nd⟩)[j]? = some u → (V3.alloc (.cells #[.string ⟨wa0.toArray⟩, .int .i64 nb, .int .i64 nc, .int .i64 nd] 45)).cell? ((⟨V3.heap.size, 0, none⟩ : Addr).add j) = some u := new_cells' V3 45 (lnL ⟨⟨wa0.toArray⟩, nb, nc, nd⟩) rfl
                have HRa := Lib.hid (HR3.out.alloc (.cells #[.string ⟨wa0.toArray⟩, .int .i64 nb, .int .i64 nc, .int .i64 nd] 45))
                have hS := HRa.out.lo
                clear HR3
                refine hK _ _ ⟨hS, ?_⟩
                clear hK K
                generalize V3.alloc (.cells #[.string ⟨wa0.toArray⟩, .int .i64 nb, .int .i64 nc, .int .i64 nd] 45) = wA at *
                generalize V3.heap.size = nA at *
                refine actNorm (fun a' ha => ?_); (try simp [go_sem] at ha); subst ha
                refine wpAnyH_all (rs := [1]) (by decide +kernel) (by simp) ?_
                intro i0 hi0
                have hi1 := List.mem_singleton.1 hi0
                clear hi0
                subst hi1
                refine wpOp_goE rfl (by kernel_rfl) (fun K hK => ?_)
                have c3 : wA.cell? ⟨gF, 3, none⟩ = some (.slice Av pre.length cv) := HRa.out.f.cell 3
                go_simp
                refine hK _ _ ⟨hS, ?_⟩
                clear hK K
                clear c3
                refine actNorm (fun a' ha => ?_); (try simp [go_sem] at ha); subst ha
                refine wpAnyH_all (rs := [19]) (by decide +kernel) (by simp) ?_
                intro i0 hi0
                have hi1 := List.mem_singleton.1 hi0
                clear hi0
                subst hi1
                refine wpOp_goE rfl (by kernel_rfl) (fun K hK => ?_)
                refine wp_append_own _ _ _ 22 rfl w3.heap.size 45 i0 _ 4 40 Tryz.underlying22 hi hz0 hz1 hz2 rfl (by decide) _ _ _ rfl HRa.out.o ⟨nA, 0, none⟩ 1 1 (lnL ⟨⟨wa0.toArray⟩, nb, nc, nd⟩) rfl rfl hnew (encLn.one _) (by unfold maxLen; omega) (by omega) hS.size ?_
                intro v9 w9 own9 hg9 _
                have hsh : ∃ A c, v9 = .slice A (pre.length + 1) c := by
                  rcases own9 with ⟨_, ⟨h, h0⟩ | ⟨g', cap, cur, h, _⟩⟩
                  · omega
                  · exact ⟨_, _, h⟩
                obtain ⟨A9, c9, rfl⟩ := hsh
                have hS9 : Below w3.heap.size w3 w9 := hS.grown hg9 hS.size (fun s e => (HRa.out.o.lt s e).1)
                have f9 := HRa.out.f.grownBy hg9 (own_ne_blk HRa.out.o HRa.out.f tNF)
                have HR9 := Lib.hid (HRa.out.more own9 hg9 hgF (by omega) (by omega))
                refine hK _ _ ⟨hS9, ?_⟩
                clear hK K
                clear hnew hg9 own9 HRa
                have z9 := f9.frozen 3
                have k9 := f9.cell 3
                refine actNorm (fun a' ha => ?_); (try simp [go_sem] at ha); subst ha
                refine wpAnyH_all (rs := [20]) (by decide +kernel) (by simp) ?_
                intro i0 hi0
                have hi1 := List.mem_singleton.1 hi0
                clear hi0
                subst hi1
                refine wpOp_goE rfl (by kernel_rfl) (fun K hK => ?_)
                go_simp
                refine hK _ _ ⟨hS9, ?_⟩
                clear hK K
                refine actNorm (fun a' ha => ?_); (try simp [go_sem] at ha); subst ha
                refine wpAnyH_all (rs := [21]) (by decide +kernel) (by simp) ?_
                intro i0 hi0
                have hi1 := List.mem_singleton.1 hi0
                clear hi0
                subst hi1
                refine wpOp_goE rfl (by kernel_rfl) (fun K hK => ?_)
                go_simp
                have hS10 := HR9.out.lo
                refine hK _ _ ⟨hS10, ?_⟩
                clear hK K
                refine wpAnyH_done (by decide +kernel) ?_ _
                have h9 := HR9.out
                exact ⟨h9.kf, ⟨h9.at', h9.b1.trans Hb1.out.symm, h9.b2.trans Hb2.out.symm⟩, ⟨⟨⟨_, h9.f, by rw [HPL.out, HSN.out, flt_append, flt_one]; exact h9.o⟩, h9.b1⟩, h9.b2⟩, h9.lo⟩
      case done =>
        rintro D ys W hD rfl ⟨⟨⟨⟨v, hF, hrow⟩, _⟩, _⟩, hB⟩ hK
        have hwl : (Ws.drop 6).length = m * 4 := by rw [List.length_drop, HN.out]; have := HNM.out; omega
        rw [Pl.dL_all _ _ m hwl, List.length_finRange] at hrow
        have hmd : ∀ y, y ∈ Pl.rdL Pl.nuP (Ws.drop 6) → y.md.size ≤ 1277 := fun y hy => by
          rw [Pl.rdL_map _ m _ hwl] at hy
          obtain ⟨k, _, rfl⟩ := List.mem_map.1 hy
          unfold Pl.lnAt
          rw [bsz, List.getD_eq_getElem?_getD, List.getElem?_drop]
          rcases Nat.lt_or_ge (6 + k * 4) Ws.length with h | h
          · rw [List.getElem?_eq_getElem h]; exact HWL.out _ (List.getElem_mem h)
          · rw [List.getElem?_eq_none h]; simp
        have hml : m = (Pl.rdL Pl.nuP (Ws.drop 6)).length := by rw [Pl.rdL_map _ m _ hwl]; simp
        obtain ⟨xs, hxs⟩ : ∃ xs, Pl.rdL Pl.nuP (Ws.drop 6) = xs := ⟨_, rfl⟩
        have HRG := Lib.hid (HRF.out xs hxs)
        rw [hxs] at hrow hml hmd
        rw [hml] at hrow
        obtain ⟨A3, k3, rfl, hr3, hk3, hm3⟩ := rows_of_owns encLn hrow
        obtain ⟨G, hG⟩ : ∃ G : Pl.Fm, G = ⟨⟨cus.toArray⟩, dy, ⟨cur.toArray⟩, xs, A3, k3⟩ := ⟨_, rfl⟩
        have hGE : fmA G = #[.string ⟨cus.toArray⟩, .int .i64 dy, .string ⟨cur.toArray⟩, .slice A3 xs.length k3] := by rw [hG]
        have hFG : Blk W gF 24 (fmA G) := by rw [hGE]; exact hF
        have hGI : ∀ W', Rows lnL 4 W' A3 xs → FmIn W' G := fun W' hr => by
          rw [hG]
          exact ⟨hr, hk3, hm3, fun y hy => by have := hmd y hy; unfold maxLen; omega, by have := HSZ.out.1; rw [bsz]; unfold maxLen; omega, by have := HSZ.out.2; rw [bsz]; unfold maxLen; omega⟩
        have HGI := Lib.hid hGI
        have HGQ := Lib.hid hG
        have HGR : Hid (G = Pl.fmR ⟨cus, dy, cur, xs⟩ G.a G.k) := Lib.hid (by rw [hG]; rfl)
        have hZ := HZ3.out.below hB hlZ3
        have hlZ9 := hZ.lt
        have q6 := hFG.range
        have HOW := Lib.hid hrow
        have hBw := HB3.out.trans (hB.mono HB3.out.size)
        have hDZ : D ≠ w.heap.size := by omega
        have hB0s := HB3.out.size
        clear hwl hmd hml hxs hr3 hk3 hm3 hG hGE hF hrow hGI
        go_wp2_with (first | refine ldm_fm (s := G) q6 rfl _ rfl rfl ?_ | (refine st_fm (k := G) hZ rfl rfl _ _ rfl rfl rfl ?_; intro w9 hM9 hO9))
        have hK9 := (hO9.block D hDZ).trans hK
        have hB9 := hBw.trans (hO9.below (B := w.heap.size) (Nat.le_refl _))
        have hgb : W.grownBy w9 (some w.heap.size) := ⟨hO9.os, hO9.tape, hO9.output, by rw [hO9.size]; exact Nat.le_refl _, fun k hk hne => hO9.block k (fun e => hne (by rw [e]))⟩
        have h9 := HOW.out.kept hgb (.inr (fun h => by have := (HOW.out.lt _ h).1; omega))
        have h10 := ownsRow_putObj h9 (l := D) (o := .deferred (some [])) (.deferred none) hK9 rfl
        obtain ⟨A4, k4, e4, hr4, _, _⟩ := rows_of_owns encLn h10
        cases e4
        have hM10 : Blk (w9.putObj D (.deferred none)) w.heap.size 24 (fmA G) := (World.putObj_heap_other (Ne.symm hDZ)).trans hM9
        refine ⟨by simp, .inl ⟨_, _, rfl, run_takeDeferred hK9, ?_⟩⟩
        refine ⟨.tuple #[.agg (fmA G), .bool true], results_cell2 Tryz.results18 _ _ w.heap.size 24 (fmA G) (0, 0) _ rfl hM10 _ rfl Tryz.underlying24 rfl infoFm, G, true, rfl, hB9.trans (belowK_b (w := w) (Nat.le_refl _) _ D _ _ (by omega) hK9 rfl rfl), HGI.out _ hr4, ?_, .inl ⟨rfl, _, ?_, HGR.out⟩⟩
        · rw [HGQ.out]
          exact own_mono h10 HB3.out.size
        · rw [HWS.out]; exact HRG.out
end Go.Proofs.YtbdnocijhbkclaaGreatDoor
