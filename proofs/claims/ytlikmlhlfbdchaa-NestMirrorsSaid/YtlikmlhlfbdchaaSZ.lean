/- Merged: S7 S8 S9 S10 S11 S12. -/
import Derived.Test.YtlikmlhlfbdchaaSY
import Derived.Maps.AppendAt
/- nest: the three checks of a piece (closures of checkPieces). -/
namespace Go.Proofs.Ytlikmlhlfbdchaa
open Go.RowKit Go.Shelf
set_option linter.unusedVariables false
namespace Ne
/-- pieces in memory -/
structure PcsM (ps : List Pa) (W : World) (A : Option Addr) (xs : List Pi) : Prop where
  row : Rows piL 5 W A xs
  ok : ∀ j, j < xs.length → PiOk ps W (xs.getD j zi)
theorem PcsM.below {ps : List Pa} {W W' : World} {A : Option Addr} {xs : List Pi} (h : PcsM ps W A xs) (hb : Below W.heap.size W W') : PcsM ps W' A xs := ⟨h.row.below hb, fun j hj => (h.ok j hj).below hb⟩
/-- the boxes that the checks read -/
structure CkEnv (b : Bo) (A : Option Addr) (f fc : Nat) (PA : Option Addr) (n pc : Nat) (Bb Bp : Nat) (W : World) : Prop where
  bo : Blk W Bb 33 (boW b A f fc)
  sl : W.cell? ⟨Bp, 0, none⟩ = some (.slice PA n pc)
theorem CkEnv.below {b : Bo} {A PA : Option Addr} {f fc n pc Bb Bp : Nat} {W W' : World} (h : CkEnv b A f fc PA n pc Bb Bp W) (hp : Bp < W.heap.size) (hb : Below W.heap.size W W') : CkEnv b A f fc PA n pc Bb Bp W' := ⟨h.bo.below hb h.bo.lt, (hb.cell (p := ⟨Bp, 0, none⟩) hp).trans h.sl⟩
/-- the first j of a list of pieces -/
theorem PcsM.take {ps : List Pa} {W : World} {A : Option Addr} {xs : List Pi} (h : PcsM ps W A xs) {k : Nat} (hk : k ≤ xs.length) : Rows piL 5 W A (xs.take k) := by
  rcases h.row with h | ⟨b, off, h1, h2, h3⟩
  · exact .inl (by rw [h]; simp)
  · exact .inr ⟨b, off, h1, h2, fun i hi => by rw [List.getElem_take]; exact h3 i (by rw [List.length_take] at hi; omega)⟩
theorem take_getD {xs : List Pi} {k j : Nat} (hj : j < k) : (xs.take k).getD j zi = xs.getD j zi := by
  rw [List.getD_eq_getElem?_getD, List.getD_eq_getElem?_getD, List.getElem?_take, if_pos hj]
theorem icK_take {ps : List Pa} {p : Pc} {xs : List Pi} {g : Int} {k : Nat} : ∀ j, j ≤ k → icK ps p (xs.take k) g j = icK ps p xs g j
  | 0, _ => rfl
  | j + 1, h => by unfold icK; rw [icK_take j (by omega), take_getD (by omega)]
end Ne
set_option maxRecDepth 100000 in
set_option maxHeartbeats 4000000 in
theorem clo1_b (ps : List Ne.Pa) (hvp : Ne.vPa ps = true) (b : Ne.Bo) (hvb : Ne.vBo b = true) (A : Option Addr) (f fc : Nat) (hf : b.fs.length = f) (xs : List Ne.Pi) (PA : Option Addr) (n pc : Nat) (hn : xs.length = n) (hn2 : n ≤ 200) (hpc : n ≤ pc) (Bb Bp k : Nat) (hk : k < n) (hls : ∀ j, j < n → Ne.lsB ps (xs.getD j Ne.zi).p = true) (r : Bool) (hr : Ne.onBb b (Ne.lyg ps (xs.getD k Ne.zi).p) = r) (w : World) (hF : Rows Ne.rcL 4 w A b.fs) (hX : Ne.PcsM ps w PA xs) (hE : Ne.CkEnv b A f fc PA n pc Bb Bp w) :
    Calls Try.prog 118 #[.int .i64 k, .pointer (some ⟨Bb, 0, none⟩), .pointer (some ⟨Bp, 0, none⟩)] w fun e w' => e = .returned (.bool r) ∧ Below w.heap.size w w' := by
  obtain ⟨gq, oq, hPe, hg, hc⟩ := hX.row.at (z := Ne.zi) (by omega)
  subst hPe
  have hck := hc k (by omega)
  have hok := hX.ok k (by omega)
  have hl := hls k hk
  obtain ⟨x, hx⟩ : ∃ x, xs.getD k Ne.zi = x := ⟨_, rfl⟩
  rw [hx] at hck hok hl hr
  have hbd := Ne.lyg_bd hvp hl
  rw [hok.len] at hbd
  have hdir := Ne.dir_ls hvp hl
  have hvi := Ne.vBo_in hvb
  have p0 : ∀ s : Ext w, s.w.cell? ⟨Bb, 0, none⟩ = some (.int .i64 b.w) := fun s => s.cell (hE.bo.cell 0)
  have p1 : ∀ s : Ext w, s.w.cell? ⟨Bb, 1, none⟩ = some (.int .i64 b.h) := fun s => s.cell (hE.bo.cell 1)
  have p2 : ∀ s : Ext w, s.w.cell? ⟨Bb, 2, none⟩ = some (.int .i64 b.g) := fun s => s.cell (hE.bo.cell 2)
  have p3 : ∀ s : Ext w, s.w.cell? ⟨Bb, 3, none⟩ = some (.slice A f fc) := fun s => s.cell (hE.bo.cell 3)
  have p4 : ∀ s : Ext w, s.w.cell? ⟨Bp, 0, none⟩ = some (.slice (some ⟨gq, oq, none⟩) n pc) := fun s => s.cell hE.sl
  have p5 : ∀ s : Ext w, s.w.cell? ⟨gq, oq + k * 5 + 4, none⟩ = some (.slice x.a x.n x.c) := fun s => s.cell (hck 4 _ rfl)
  have HC := Lib.hid (fun (s : Ext w) => ison_b b A x.a (Ne.lyg ps x.p) f fc x.n x.c hok.len hbd.2.2 r hr s.w (hok.pts.below s.h))
  have hlm : (k : Int) < (n : Int) := by omega
  clear hc hck hE hF hX hls hok hl hx hbd hdir hvi hvp hvb hf hr hn
  go_enter Try.func118, Try.ntmps118
  go_wp2
  refine wp_region_ext (by kernel_rfl) (by kernel_rfl) ?_
  repeat (go_big_quiet_step ((go_at_call 106; refine calls_ext (HC.out _))))
  refine wpQuiet_nil ?_
  rintro _ ⟨s, rfl⟩
  go_wp2
  go_ret
  exact ⟨rfl, s.h⟩

set_option maxRecDepth 100000 in
set_option maxHeartbeats 4000000 in
theorem clo2_b (ps : List Ne.Pa) (hvp : Ne.vPa ps = true) (b : Ne.Bo) (hvb : Ne.vBo b = true) (A : Option Addr) (f fc : Nat) (hf : b.fs.length = f) (xs : List Ne.Pi) (PA : Option Addr) (n pc : Nat) (hn : xs.length = n) (hn2 : n ≤ 200) (hpc : n ≤ pc) (Bb Bp k : Nat) (hk : k < n) (hls : ∀ j, j < n → Ne.lsB ps (xs.getD j Ne.zi).p = true) (hon : ∀ j, j < n → Ne.OnB b (Ne.lyg ps (xs.getD j Ne.zi).p)) (r : Bool) (hr : Ne.clB b (Ne.lyg ps (xs.getD k Ne.zi).p) = r) (w : World) (hF : Rows Ne.rcL 4 w A b.fs) (hX : Ne.PcsM ps w PA xs) (hE : Ne.CkEnv b A f fc PA n pc Bb Bp w) :
    Calls Try.prog 119 #[.int .i64 k, .pointer (some ⟨Bb, 0, none⟩), .pointer (some ⟨Bp, 0, none⟩)] w fun e w' => e = .returned (.bool r) ∧ Below w.heap.size w w' := by
  obtain ⟨gq, oq, hPe, hg, hc⟩ := hX.row.at (z := Ne.zi) (by omega)
  subst hPe
  have hck := hc k (by omega)
  have hok := hX.ok k (by omega)
  have hl := hls k hk
  obtain ⟨x, hx⟩ : ∃ x, xs.getD k Ne.zi = x := ⟨_, rfl⟩
  rw [hx] at hck hok hl hr
  have hbd := Ne.lyg_bd hvp hl
  rw [hok.len] at hbd
  have hdir := Ne.dir_ls hvp hl
  have hvi := Ne.vBo_in hvb
  have p0 : ∀ s : Ext w, s.w.cell? ⟨Bb, 0, none⟩ = some (.int .i64 b.w) := fun s => s.cell (hE.bo.cell 0)
  have p1 : ∀ s : Ext w, s.w.cell? ⟨Bb, 1, none⟩ = some (.int .i64 b.h) := fun s => s.cell (hE.bo.cell 1)
  have p2 : ∀ s : Ext w, s.w.cell? ⟨Bb, 2, none⟩ = some (.int .i64 b.g) := fun s => s.cell (hE.bo.cell 2)
  have p3 : ∀ s : Ext w, s.w.cell? ⟨Bb, 3, none⟩ = some (.slice A f fc) := fun s => s.cell (hE.bo.cell 3)
  have p4 : ∀ s : Ext w, s.w.cell? ⟨Bp, 0, none⟩ = some (.slice (some ⟨gq, oq, none⟩) n pc) := fun s => s.cell hE.sl
  have p5 : ∀ s : Ext w, s.w.cell? ⟨gq, oq + k * 5 + 4, none⟩ = some (.slice x.a x.n x.c) := fun s => s.cell (hck 4 _ rfl)
  have hoo := hon k hk
  rw [hx] at hoo
  have HC := Lib.hid (fun (s : Ext w) => isbeside_b b A x.a (Ne.lyg ps x.p) f fc x.n x.c hf hok.len hbd.2.1 hbd.2.2 hok.cap hvb hoo hdir r hr s.w (hF.below s.h) (hok.pts.below s.h))
  clear hoo hon
  have hlm : (k : Int) < (n : Int) := by omega
  clear hc hck hE hF hX hls hok hl hx hbd hdir hvi hvp hvb hf hr hn
  go_enter Try.func119, Try.ntmps119
  go_wp2
  refine wp_region_ext (by kernel_rfl) (by kernel_rfl) ?_
  repeat (go_big_quiet_step ((go_at_call 105; refine calls_ext (HC.out _))))
  refine wpQuiet_nil ?_
  rintro _ ⟨s, rfl⟩
  go_wp2
  go_ret
  exact ⟨rfl, s.h⟩

set_option maxRecDepth 100000 in
set_option maxHeartbeats 4000000 in
theorem clo3_b (ps : List Ne.Pa) (hvp : Ne.vPa ps = true) (b : Ne.Bo) (hvb : Ne.vBo b = true) (A : Option Addr) (f fc : Nat) (hf : b.fs.length = f) (xs : List Ne.Pi) (PA : Option Addr) (n pc : Nat) (hn : xs.length = n) (hn2 : n ≤ 200) (hpc : n ≤ pc) (Bb Bp k : Nat) (hk : k < n) (hls : ∀ j, j < n → Ne.lsB ps (xs.getD j Ne.zi).p = true) (hon : ∀ j, j < n → Ne.OnB b (Ne.lyg ps (xs.getD j Ne.zi).p)) (r : Bool) (hr : Ne.icK ps (xs.getD k Ne.zi).p xs b.g k = r) (w : World) (hF : Rows Ne.rcL 4 w A b.fs) (hX : Ne.PcsM ps w PA xs) (hE : Ne.CkEnv b A f fc PA n pc Bb Bp w) :
    Calls Try.prog 120 #[.int .i64 k, .pointer (some ⟨Bp, 0, none⟩), .pointer (some ⟨Bb, 0, none⟩)] w fun e w' => e = .returned (.bool r) ∧ Below w.heap.size w w' := by
  obtain ⟨gq, oq, hPe, hg, hc⟩ := hX.row.at (z := Ne.zi) (by omega)
  subst hPe
  have hck := hc k (by omega)
  have hok := hX.ok k (by omega)
  have hl := hls k hk
  obtain ⟨x, hx⟩ : ∃ x, xs.getD k Ne.zi = x := ⟨_, rfl⟩
  rw [hx] at hck hok hl hr
  have hbd := Ne.lyg_bd hvp hl
  rw [hok.len] at hbd
  have hdir := Ne.dir_ls hvp hl
  have hvi := Ne.vBo_in hvb
  have p0 : ∀ s : Ext w, s.w.cell? ⟨Bb, 0, none⟩ = some (.int .i64 b.w) := fun s => s.cell (hE.bo.cell 0)
  have p1 : ∀ s : Ext w, s.w.cell? ⟨Bb, 1, none⟩ = some (.int .i64 b.h) := fun s => s.cell (hE.bo.cell 1)
  have p2 : ∀ s : Ext w, s.w.cell? ⟨Bb, 2, none⟩ = some (.int .i64 b.g) := fun s => s.cell (hE.bo.cell 2)
  have p3 : ∀ s : Ext w, s.w.cell? ⟨Bb, 3, none⟩ = some (.slice A f fc) := fun s => s.cell (hE.bo.cell 3)
  have p4 : ∀ s : Ext w, s.w.cell? ⟨Bp, 0, none⟩ = some (.slice (some ⟨gq, oq, none⟩) n pc) := fun s => s.cell hE.sl
  have p5 : ∀ s : Ext w, s.w.cell? ⟨gq, oq + k * 5 + 4, none⟩ = some (.slice x.a x.n x.c) := fun s => s.cell (hck 4 _ rfl)
  have hoo := hon k hk
  rw [hx] at hoo
  have p6 : ∀ s : Ext w, s.w.cell? ⟨gq, oq + k * 5, none⟩ = some (.int .i64 x.p.p) := fun s => s.cell (hck 0 _ rfl)
  have p7 : ∀ s : Ext w, s.w.cell? ⟨gq, oq + k * 5 + 1, none⟩ = some (.int .i64 x.p.x) := fun s => s.cell (hck 1 _ rfl)
  have p8 : ∀ s : Ext w, s.w.cell? ⟨gq, oq + k * 5 + 2, none⟩ = some (.int .i64 x.p.y) := fun s => s.cell (hck 2 _ rfl)
  have p9 : ∀ s : Ext w, s.w.cell? ⟨gq, oq + k * 5 + 3, none⟩ = some (.bool x.p.t) := fun s => s.cell (hck 3 _ rfl)
  have HC := Lib.hid (fun (s : Ext w) => isclear_b ps hvp b hvi.1.2 hvi.2.1.2 x (xs.take k) (some ⟨gq, oq, none⟩) k pc (by rw [List.length_take]; omega) (by omega) b.g hvi.2.2.1.1 hvi.2.2.1.2 hl (fun j hj => by rw [Ne.take_getD hj]; exact hls j (by omega)) hoo (fun j hj => by rw [Ne.take_getD hj]; exact hon j (by omega)) r (by rw [Ne.icK_take k (Nat.le_refl _)]; exact hr) s.w (hok.below s.h) ((hX.take (by omega)).below s.h) (fun j hj => by rw [Ne.take_getD hj]; exact (hX.ok j (by omega)).below s.h))
  have hkc : (k : Int) ≤ (pc : Int) := by omega
  clear hoo hon
  have hlm : (k : Int) < (n : Int) := by omega
  clear hc hck hE hF hX hls hok hl hx hbd hdir hvi hvp hvb hf hr hn
  go_enter Try.func120, Try.ntmps120
  go_wp2
  refine wp_region_ext (by kernel_rfl) (by kernel_rfl) ?_
  repeat (go_big_quiet_step ((go_at_call 107; refine calls_ext (HC.out _))))
  refine wpQuiet_nil ?_
  rintro _ ⟨s, rfl⟩
  go_wp2
  go_ret
  exact ⟨rfl, s.h⟩

end Go.Proofs.Ytlikmlhlfbdchaa
/- nest: checkPieces. -/
namespace Go.Proofs.Ytlikmlhlfbdchaa
open Go.RowKit Go.Shelf
set_option linter.unusedVariables false
namespace Ne
theorem icK_cf {ps : List Pa} {pl : List Pc} {xs : List Pi} {g : Int} {i n : Nat} (hpl : ∀ j, j < n → (xs.getD j zi).p = pl.getD j zc) (hi : i < n) : ∀ j, j ≤ n → icK ps (xs.getD i zi).p xs g j = cfK ps pl g i j
  | 0, _ => rfl
  | j + 1, h => by unfold icK cfK; rw [icK_cf hpl hi j (by omega), hpl i hi, hpl j (by omega)]
end Ne
section
variable {ops : Array Oper} {rest : List Oper} {o : Oper} {a : Act} {w : World} {Q : Exit → Act → World → Prop}
theorem infoCk : (Try.prog.info? (132 : TypeId)).map (·.size) = some 2 := by kernel_rfl
/-- a whole check is stored -/
theorem st_ck {old : Array Value} {e : Int} {F : Value} {g : Nat} {t : TypeId} (hF : F.oneCell' = true) (b : Blk w g t old) (hs : old.size = 2) (hgd : o.guard = none) (x y : Operand) (ho : o.op = .store (132 : TypeId) x y)
    (hx : a.eval x = .pointer (some ⟨g, 0, none⟩)) (hy : a.eval y = .agg #[.int .i64 e, F])
    (h : ∀ w', Blk w' g t #[.int .i64 e, F] → Only g w w' → wpList Try.prog ops Q rest (a.put o.dst undef) w') : wpList Try.prog ops Q (o :: rest) a w :=
  wpList_store_row hgd (132 : TypeId) x y ho g #[.int .i64 e, F] hx hy t old b infoCk hs (by simp [hF, show (Value.int .i64 e).oneCell' = true from rfl]) (h _ (blk_setRow' b) (Only.setRow g w #[.int .i64 e, F]))
end
set_option maxRecDepth 100000 in
set_option maxHeartbeats 16000000 in
theorem checkpieces_b (ps : List Ne.Pa) (hvp : Ne.vPa ps = true) (b : Ne.Bo) (hvb : Ne.vBo b = true) (A : Option Addr) (f fc : Nat) (hf : b.fs.length = f) (xs : List Ne.Pi) (pl : List Ne.Pc) (PA : Option Addr) (n pc : Nat) (hn : xs.length = n) (hn2 : n ≤ 200) (hpc : n ≤ pc)
    (hls : ∀ j, j < n → Ne.lsB ps (xs.getD j Ne.zi).p = true) (hpl : ∀ j, j < n → (xs.getD j Ne.zi).p = pl.getD j Ne.zc) (I E : Int)
    (H2 : Hid (∀ k, k < n → Ne.fst (Ne.onI b ps pl) k = k → Ne.onI b ps pl k = false → I = k ∧ E = 71))
    (H3 : Hid (Ne.fst (Ne.onI b ps pl) n = n → ∀ k, k < n → Ne.fst (Ne.clI b ps pl) k = k → Ne.clI b ps pl k = false → I = k ∧ E = 72))
    (H4 : Hid (Ne.fst (Ne.onI b ps pl) n = n → Ne.fst (Ne.clI b ps pl) n = n → ∀ k, k < n → Ne.fst (Ne.cfI b ps pl) k = k → Ne.cfI b ps pl k = false → I = k ∧ E = 73))
    (H5 : Hid (Ne.fst (Ne.onI b ps pl) n = n → Ne.fst (Ne.clI b ps pl) n = n → Ne.fst (Ne.cfI b ps pl) n = n → I = 0 ∧ E = 0))
    (w : World) (hF : Rows Ne.rcL 4 w A b.fs) (hX : Ne.PcsM ps w PA xs) :
    Calls Try.prog 99 #[.agg (boW b A f fc), .slice PA n pc] w fun e w' => e = .returned (.tuple #[.int .i64 I, .int .i64 E]) ∧ Below w.heap.size w w' := by
  have hB := ((Below.refl w.heap.size w).alloc (Nat.le_refl _) (.cells (boW b A f fc) 33)).alloc (by simp) (.cells #[.slice PA n pc] 86)
  have bB := (Blk.new w 33 (boW b A f fc)).alloc (.cells #[.slice PA n pc] 86)
  have bS := Blk.new (w.alloc (.cells (boW b A f fc) 33)) 86 #[.slice PA n pc]
  rw [World.size_alloc] at bS
  obtain ⟨g, hg⟩ : ∃ g, w.heap.size = g := ⟨_, rfl⟩
  obtain ⟨c1, hc1⟩ : ∃ c, Value.func (.func 118) #[] #[.pointer (some ⟨g, 0, none⟩), .pointer (some ⟨g + 1, 0, none⟩)] = c := ⟨_, rfl⟩
  have ho0 : ∀ j, j < n → Ne.fst (Ne.onI b ps pl) n = n → Ne.OnB b (Ne.lyg ps (xs.getD j Ne.zi).p) := fun j hj h => by
    have := Ne.fst_at h hj
    unfold Ne.onI at this
    rw [← hpl j hj] at this
    exact Ne.onBb_iff.1 this
  have C1 := Lib.hid (fun k (hk : k < n) r (hr : Ne.onI b ps pl k = r) W h1 h2 h3 => clo1_b ps hvp b hvb A f fc hf xs PA n pc hn hn2 hpc g (g + 1) k hk hls r (by rw [← hr]; unfold Ne.onI; rw [hpl k hk]) W h1 h2 h3)
  have C2 := Lib.hid (fun (ho : Ne.fst (Ne.onI b ps pl) n = n) k (hk : k < n) r (hr : Ne.clI b ps pl k = r) W h1 h2 h3 => clo2_b ps hvp b hvb A f fc hf xs PA n pc hn hn2 hpc g (g + 1) k hk hls (fun j hj => ho0 j hj ho) r (by rw [← hr]; unfold Ne.clI; rw [hpl k hk]) W h1 h2 h3)
  have C3 := Lib.hid (fun (ho : Ne.fst (Ne.onI b ps pl) n = n) k (hk : k < n) r (hr : Ne.cfI b ps pl k = r) W h1 h2 h3 => clo3_b ps hvp b hvb A f fc hf xs PA n pc hn hn2 hpc g (g + 1) k hk hls (fun j hj => ho0 j hj ho) r (by rw [← hr]; unfold Ne.cfI; exact Ne.icK_cf hpl hk k (by omega)) W h1 h2 h3)
  have HF := Lib.hid (hF.below hB)
  have HX := Lib.hid (hX.below hB)
  clear hF hX ho0 hls hpl hvp hvb hf hn hc1 c1
  go_enter Try.func99, Try.ntmps99
  go_wp2
  have hba := (Below.refl ((w.alloc (.cells (boW b A f fc) 33)).alloc (.cells #[.slice PA n pc] 86)).heap.size ((w.alloc (.cells (boW b A f fc) 33)).alloc (.cells #[.slice PA n pc] 86))).alloc (Nat.le_refl _) (.cells #[.int .i64 71, Value.func (.func 118) #[] #[.pointer (some ⟨g, 0, none⟩), .pointer (some ⟨g + 1, 0, none⟩)], .int .i64 72, Value.func (.func 119) #[] #[.pointer (some ⟨g, 0, none⟩), .pointer (some ⟨g + 1, 0, none⟩)], .int .i64 73, Value.func (.func 120) #[] #[.pointer (some ⟨g + 1, 0, none⟩), .pointer (some ⟨g, 0, none⟩)]] (132 : TypeId))
  have bK := Blk.new ((w.alloc (.cells (boW b A f fc) 33)).alloc (.cells #[.slice PA n pc] 86)) (132 : TypeId) #[.int .i64 71, Value.func (.func 118) #[] #[.pointer (some ⟨g, 0, none⟩), .pointer (some ⟨g + 1, 0, none⟩)], .int .i64 72, Value.func (.func 119) #[] #[.pointer (some ⟨g, 0, none⟩), .pointer (some ⟨g + 1, 0, none⟩)], .int .i64 73, Value.func (.func 120) #[] #[.pointer (some ⟨g + 1, 0, none⟩), .pointer (some ⟨g, 0, none⟩)]]
  rw [World.size_alloc, World.size_alloc, hg] at bK
  rw [hg] at bB bS
  have bB3 := bB.alloc (.cells #[.int .i64 71, Value.func (.func 118) #[] #[.pointer (some ⟨g, 0, none⟩), .pointer (some ⟨g + 1, 0, none⟩)], .int .i64 72, Value.func (.func 119) #[] #[.pointer (some ⟨g, 0, none⟩), .pointer (some ⟨g + 1, 0, none⟩)], .int .i64 73, Value.func (.func 120) #[] #[.pointer (some ⟨g + 1, 0, none⟩), .pointer (some ⟨g, 0, none⟩)]] (132 : TypeId))
  have bS3 := bS.alloc (.cells #[.int .i64 71, Value.func (.func 118) #[] #[.pointer (some ⟨g, 0, none⟩), .pointer (some ⟨g + 1, 0, none⟩)], .int .i64 72, Value.func (.func 119) #[] #[.pointer (some ⟨g, 0, none⟩), .pointer (some ⟨g + 1, 0, none⟩)], .int .i64 73, Value.func (.func 120) #[] #[.pointer (some ⟨g + 1, 0, none⟩), .pointer (some ⟨g, 0, none⟩)]] (132 : TypeId))
  have hB3 := hB.alloc hB.size (.cells #[.int .i64 71, Value.func (.func 118) #[] #[.pointer (some ⟨g, 0, none⟩), .pointer (some ⟨g + 1, 0, none⟩)], .int .i64 72, Value.func (.func 119) #[] #[.pointer (some ⟨g, 0, none⟩), .pointer (some ⟨g + 1, 0, none⟩)], .int .i64 73, Value.func (.func 120) #[] #[.pointer (some ⟨g + 1, 0, none⟩), .pointer (some ⟨g, 0, none⟩)]] (132 : TypeId))
  have HF3 := Lib.hid (HF.out.below hba)
  have HX3 := Lib.hid (HX.out.below hba)
  clear bB bS hba HF HX hB
  generalize ((w.alloc (.cells (boW b A f fc) 33)).alloc (.cells #[.slice PA n pc] 86)).alloc (.cells #[.int .i64 71, Value.func (.func 118) #[] #[.pointer (some ⟨g, 0, none⟩), .pointer (some ⟨g + 1, 0, none⟩)], .int .i64 72, Value.func (.func 119) #[] #[.pointer (some ⟨g, 0, none⟩), .pointer (some ⟨g + 1, 0, none⟩)], .int .i64 73, Value.func (.func 120) #[] #[.pointer (some ⟨g + 1, 0, none⟩), .pointer (some ⟨g, 0, none⟩)]] (132 : TypeId)) = w3 at *
  have hgS := bS3.lt
  have HENV : Hid (Ne.CkEnv b A f fc PA n pc g (g + 1) w3) := Lib.hid ⟨bB3, bS3.cell 0⟩
  go_loopw [17] (fun i wr => ∃ t : Nat, t ≤ 3 ∧ i = .int .i64 t ∧ (1 ≤ t → Ne.fst (Ne.onI b ps pl) n = n) ∧ (2 ≤ t → Ne.fst (Ne.clI b ps pl) n = n) ∧ (3 ≤ t → Ne.fst (Ne.cfI b ps pl) n = n) ∧ Below w3.heap.size w3 wr) (fun i _ => 3 - (intOf i).toNat)
  case atStart => exact ⟨0, by omega, rfl, fun h => by omega, fun h => by omega, fun h => by omega, Below.refl _ _⟩
  case round =>
    obtain ⟨t, ht, rfl, ha1, ha2, ha3, hbo⟩ := hrel
    obtain ⟨wo, rfl⟩ : ∃ wo, wo = wr := ⟨_, rfl⟩
    have A1 := Lib.hid ha1
    have A2 := Lib.hid ha2
    have A3 := Lib.hid ha3
    have bK1 := bK.below hbo bK.lt
    have bS1 := bS3.below hbo bS3.lt
    have s0 := bS1.cell 0
    simp only [List.getElem?_toArray, List.getElem?_cons_zero] at s0
    clear ha1 ha2 ha3
    rcases (show t = 0 ∨ t = 1 ∨ t = 2 ∨ t = 3 by omega) with rfl | rfl | rfl | rfl
    · have k0 := bK1.cell 0
      have k1 := bK1.cell 1
      simp only [List.getElem?_toArray, List.getElem?_cons_zero, List.getElem?_cons_succ] at k0 k1
      have hbA := hbo.alloc hbo.size (.cells #[.int .i64 0, Value.nilFunc] (132 : TypeId))
      have bA := Blk.new wo (132 : TypeId) #[.int .i64 0, Value.nilFunc]
      go_wp2_with (refine st_ck (e := 71) (F := Value.func (.func 118) #[] #[.pointer (some ⟨g, 0, none⟩), .pointer (some ⟨g + 1, 0, none⟩)]) (by simp [Value.oneCell']) bA rfl rfl _ _ rfl rfl rfl ?_; intro w4 bN hO4; have hb4 := hbA.trans (hO4.below hbo.size); have s1 := (bS3.below hb4 bS3.lt).cell 0; simp only [List.getElem?_toArray, List.getElem?_cons_zero] at s1)
      clear s0 s1 k0 k1 bK1 bS1 bA hbA hO4
      go_loopw [23] (fun i wr => ∃ k : Nat, k ≤ n ∧ i = .int .i64 k ∧ Ne.fst (Ne.onI b ps pl) k = k ∧ Below w4.heap.size w4 wr) (fun i _ => n - (intOf i).toNat)
      case atStart => exact ⟨0, Nat.zero_le _, rfl, rfl, Below.refl _ _⟩
      case round =>
        obtain ⟨k, hk, rfl, hv, hb⟩ := hrel
        have HVK := Lib.hid hv
        clear hv
        have hb5 := hb4.trans (Below.mono hb hb4.size)
        by_cases hlt : k < n
        · obtain ⟨y, hy⟩ : ∃ y, (Ne.onI b ps pl) k = y := ⟨_, rfl⟩
          have HY := Lib.hid hy
          have HCL := Lib.hid (fun h1 h2 h3 => C1.out k hlt y hy wr h1 h2 h3)
          have bN1 := bN.below hb bN.lt
          have q0 := bN1.cell 0
          have q1 := bN1.cell 1
          simp only [List.getElem?_toArray, List.getElem?_cons_zero, List.getElem?_cons_succ] at q0 q1
          clear hy
          go_wp2_with fail
          refine (HCL.out (HF3.out.below hb5) (HX3.out.below hb5) (HENV.out.below hgS hb5)).mono ?_
          rintro e w5 ⟨rfl, hb6⟩
          have hb7 := hb5.trans (hb6.mono hb5.size)
          have hb8 := hb.trans (hb6.mono hb.size)
          have bN2 := bN1.below hb6 bN1.lt
          clear q0 q1
          have q0 := bN2.cell 0
          simp only [List.getElem?_toArray, List.getElem?_cons_zero] at q0
          cases y with
          | false =>
            have HEE := Lib.hid (H2.out k hlt HVK.out HY.out)
            go_wp2
            go_quiet (fail)
            go_wp2
            go_ret2
            exact ⟨by rw [HEE.out.1, HEE.out.2]; rfl, hB3.trans ((Go.Proofs.Ytlikmlhlfbdchaa.Below.drewN (n := nq) hb7).mono hB3.size)⟩
          | true =>
            go_wp2
            go_roundw
            case rel => exact ⟨k + 1, by omega, by go_num, Ne.fst_step HVK.out HY.out, hb8⟩
            case measure => simp [intOf]; omega
        · obtain rfl : n = k := by omega
          go_wp2
          go_roundw
          case rel => exact ⟨1, by omega, by go_num, fun _ => HVK.out, fun h => by omega, fun h => by omega, hb5⟩
          case measure => simp [intOf]
    · have k0 := bK1.cell 2
      have k1 := bK1.cell 3
      simp only [List.getElem?_toArray, List.getElem?_cons_zero, List.getElem?_cons_succ] at k0 k1
      have hbA := hbo.alloc hbo.size (.cells #[.int .i64 0, Value.nilFunc] (132 : TypeId))
      have bA := Blk.new wo (132 : TypeId) #[.int .i64 0, Value.nilFunc]
      go_wp2_with (refine st_ck (e := 72) (F := Value.func (.func 119) #[] #[.pointer (some ⟨g, 0, none⟩), .pointer (some ⟨g + 1, 0, none⟩)]) (by simp [Value.oneCell']) bA rfl rfl _ _ rfl rfl rfl ?_; intro w4 bN hO4; have hb4 := hbA.trans (hO4.below hbo.size); have s1 := (bS3.below hb4 bS3.lt).cell 0; simp only [List.getElem?_toArray, List.getElem?_cons_zero] at s1)
      clear s0 s1 k0 k1 bK1 bS1 bA hbA hO4
      go_loopw [23] (fun i wr => ∃ k : Nat, k ≤ n ∧ i = .int .i64 k ∧ Ne.fst (Ne.clI b ps pl) k = k ∧ Below w4.heap.size w4 wr) (fun i _ => n - (intOf i).toNat)
      case atStart => exact ⟨0, Nat.zero_le _, rfl, rfl, Below.refl _ _⟩
      case round =>
        obtain ⟨k, hk, rfl, hv, hb⟩ := hrel
        have HVK := Lib.hid hv
        clear hv
        have hb5 := hb4.trans (Below.mono hb hb4.size)
        by_cases hlt : k < n
        · obtain ⟨y, hy⟩ : ∃ y, (Ne.clI b ps pl) k = y := ⟨_, rfl⟩
          have HY := Lib.hid hy
          have HCL := Lib.hid (fun h1 h2 h3 => C2.out (A1.out (by omega)) k hlt y hy wr h1 h2 h3)
          have bN1 := bN.below hb bN.lt
          have q0 := bN1.cell 0
          have q1 := bN1.cell 1
          simp only [List.getElem?_toArray, List.getElem?_cons_zero, List.getElem?_cons_succ] at q0 q1
          clear hy
          go_wp2_with fail
          refine (HCL.out (HF3.out.below hb5) (HX3.out.below hb5) (HENV.out.below hgS hb5)).mono ?_
          rintro e w5 ⟨rfl, hb6⟩
          have hb7 := hb5.trans (hb6.mono hb5.size)
          have hb8 := hb.trans (hb6.mono hb.size)
          have bN2 := bN1.below hb6 bN1.lt
          clear q0 q1
          have q0 := bN2.cell 0
          simp only [List.getElem?_toArray, List.getElem?_cons_zero] at q0
          cases y with
          | false =>
            have HEE := Lib.hid (H3.out (A1.out (by omega)) k hlt HVK.out HY.out)
            go_wp2
            go_quiet (fail)
            go_wp2
            go_ret2
            exact ⟨by rw [HEE.out.1, HEE.out.2]; rfl, hB3.trans ((Go.Proofs.Ytlikmlhlfbdchaa.Below.drewN (n := nq) hb7).mono hB3.size)⟩
          | true =>
            go_wp2
            go_roundw
            case rel => exact ⟨k + 1, by omega, by go_num, Ne.fst_step HVK.out HY.out, hb8⟩
            case measure => simp [intOf]; omega
        · obtain rfl : n = k := by omega
          go_wp2
          go_roundw
          case rel => exact ⟨2, by omega, by go_num, fun _ => A1.out (by omega), fun _ => HVK.out, fun h => by omega, hb5⟩
          case measure => simp [intOf]
    · have k0 := bK1.cell 4
      have k1 := bK1.cell 5
      simp only [List.getElem?_toArray, List.getElem?_cons_zero, List.getElem?_cons_succ] at k0 k1
      have hbA := hbo.alloc hbo.size (.cells #[.int .i64 0, Value.nilFunc] (132 : TypeId))
      have bA := Blk.new wo (132 : TypeId) #[.int .i64 0, Value.nilFunc]
      go_wp2_with (refine st_ck (e := 73) (F := Value.func (.func 120) #[] #[.pointer (some ⟨g + 1, 0, none⟩), .pointer (some ⟨g, 0, none⟩)]) (by simp [Value.oneCell']) bA rfl rfl _ _ rfl rfl rfl ?_; intro w4 bN hO4; have hb4 := hbA.trans (hO4.below hbo.size); have s1 := (bS3.below hb4 bS3.lt).cell 0; simp only [List.getElem?_toArray, List.getElem?_cons_zero] at s1)
      clear s0 s1 k0 k1 bK1 bS1 bA hbA hO4
      go_loopw [23] (fun i wr => ∃ k : Nat, k ≤ n ∧ i = .int .i64 k ∧ Ne.fst (Ne.cfI b ps pl) k = k ∧ Below w4.heap.size w4 wr) (fun i _ => n - (intOf i).toNat)
      case atStart => exact ⟨0, Nat.zero_le _, rfl, rfl, Below.refl _ _⟩
      case round =>
        obtain ⟨k, hk, rfl, hv, hb⟩ := hrel
        have HVK := Lib.hid hv
        clear hv
        have hb5 := hb4.trans (Below.mono hb hb4.size)
        by_cases hlt : k < n
        · obtain ⟨y, hy⟩ : ∃ y, (Ne.cfI b ps pl) k = y := ⟨_, rfl⟩
          have HY := Lib.hid hy
          have HCL := Lib.hid (fun h1 h2 h3 => C3.out (A1.out (by omega)) k hlt y hy wr h1 h2 h3)
          have bN1 := bN.below hb bN.lt
          have q0 := bN1.cell 0
          have q1 := bN1.cell 1
          simp only [List.getElem?_toArray, List.getElem?_cons_zero, List.getElem?_cons_succ] at q0 q1
          clear hy
          go_wp2_with fail
          refine (HCL.out (HF3.out.below hb5) (HX3.out.below hb5) (HENV.out.below hgS hb5)).mono ?_
          rintro e w5 ⟨rfl, hb6⟩
          have hb7 := hb5.trans (hb6.mono hb5.size)
          have hb8 := hb.trans (hb6.mono hb.size)
          have bN2 := bN1.below hb6 bN1.lt
          clear q0 q1
          have q0 := bN2.cell 0
          simp only [List.getElem?_toArray, List.getElem?_cons_zero] at q0
          cases y with
          | false =>
            have HEE := Lib.hid (H4.out (A1.out (by omega)) (A2.out (by omega)) k hlt HVK.out HY.out)
            go_wp2
            go_quiet (fail)
            go_wp2
            go_ret2
            exact ⟨by rw [HEE.out.1, HEE.out.2]; rfl, hB3.trans ((Go.Proofs.Ytlikmlhlfbdchaa.Below.drewN (n := nq) hb7).mono hB3.size)⟩
          | true =>
            go_wp2
            go_roundw
            case rel => exact ⟨k + 1, by omega, by go_num, Ne.fst_step HVK.out HY.out, hb8⟩
            case measure => simp [intOf]; omega
        · obtain rfl : n = k := by omega
          go_wp2
          go_roundw
          case rel => exact ⟨3, by omega, by go_num, fun _ => A1.out (by omega), fun _ => A2.out (by omega), fun _ => HVK.out, hb5⟩
          case measure => simp [intOf]
    · have HEE := Lib.hid (H5.out (A1.out (by omega)) (A2.out (by omega)) (A3.out (by omega)))
      go_wp2
      go_ret2
      exact ⟨by rw [HEE.out.1, HEE.out.2]; rfl, hB3.trans (hbo.mono hB3.size)⟩
end Go.Proofs.Ytlikmlhlfbdchaa
/- nest: lay. -/
namespace Go.Proofs.Ytlikmlhlfbdchaa
open Go.RowKit Go.Shelf
set_option linter.unusedVariables false
theorem wp_append_own_at {P : Program} {w : World} {o : Oper} {a : Act} {K : Act → World → Prop} {Q : Exit → Act → World → Prop} (s x : Operand) (t : TypeId)
    (ho : o.op = .call { callee := .builtin .append, args := #[s, x], argTypes := #[t, t] })
    (base : Nat) (e : TypeId) (i : TypeInfo) (z : Value) (size bytes : Nat) (ht : P.underlying t = some (.slice e)) (hi : P.info? e = some i) (hz : i.zero = some z)
    (hsize : i.size = size) (hby : i.bytes = bytes) (hzs : z.cells.size = size) (hsz : 0 < size)
    (v : Value) (n : Nat) (xs : List Value) (hs : a.eval s = v) (hown : w.ownsRow base e size v n xs)
    (ad : Addr) (m c : Nat) (news : List Value) (hx : a.eval x = .slice (some ad) m c) (hl : news.length = m * size) (hnews : ∀ j u, news[j]? = some u → w.cell? (ad.add j) = some u) (h1 : ∀ u ∈ news, u.oneCell' = true)
    (h63 : n + m ≤ maxLen) (hbytes : (n + m) * bytes ≤ 140737488355328) (hbase : base ≤ w.heap.size)
    (h : ∀ v' w', w'.ownsRow base e size v' (n + m) (xs ++ news) → w.grownBy w' v.ownBlock → (v'.ownBlock = v.ownBlock ∨ v'.ownBlock = some w.heap.size) → K (a.put o.dst v') w') : o.wp P a w K Q := by
  obtain ⟨v', w', hr, h2, h3, _, h5⟩ := run_append_own_at (P := P) w base t o.type e i z size bytes ht hi hz hsize hby hzs hsz v n xs hown ad m c news hl hnews h1 h63 hbytes hbase
  unfold Oper.wp execOp
  simp only [ho, resolve, invoke, builtin, Sem.run_bind, Sem.run_pure, Result.andThen_ok, List.map_toArray, List.map_cons, List.map_nil, hs, hx, hr]
  exact h v' w' h2 h3 h5
theorem pts_grown {W W' : World} {A : Option Addr} {l : List Geo.XY} {r : Option Nat} (h : Pts W A l) (hg : W.grownBy W' r) (hne : ∀ g off, A = some ⟨g, off, none⟩ → r ≠ some g) : Pts W' A l := by
  rcases h with h | ⟨b, off, h1, h2, h3⟩
  · exact .inl h
  · obtain ⟨_, _, _, g4, g5⟩ := hg
    have hb := g5 b h2 (fun e => hne b off h1 e.symm)
    refine .inr ⟨b, off, h1, Nat.lt_of_lt_of_le h2 g4, fun k hk => ?_⟩
    have := h3 k hk
    unfold World.cell? at this ⊢
    simp only at this ⊢
    rw [hb]; exact this
theorem range_grown {W W' : World} {b o : Nat} {cs : List Value} {r : Option Nat} (h : W.rangeAt b o cs) (hb : b < W.heap.size) (hg : W.grownBy W' r) (hne : r ≠ some b) : W'.rangeAt b o cs := fun j v hv => by
  obtain ⟨_, _, _, _, g5⟩ := hg
  have h1 := g5 b hb (fun e => hne e.symm)
  have := h j v hv
  unfold World.cell? at this ⊢
  simp only at this ⊢
  rw [h1]; exact this
theorem infoPi3 : (Try.prog.info? 121).map (fun i => (i.zero, i.size, i.bytes)) = some (some (.agg #[.int .i64 0, .int .i64 0, .int .i64 0, .bool false, .slice none 0 0]), 5, 56) := by kernel_rfl
namespace Ne
/-- a piece whose corners do not lie in the row's own block -/
def Away (v : Value) (x : Pi) : Prop := ∀ g off, x.a = some ⟨g, off, none⟩ → v.ownBlock ≠ some g
end Ne
set_option maxRecDepth 100000 in
set_option maxHeartbeats 16000000 in
theorem lay_b (b : Ne.Bo) (A B C : Option Addr) (ps : List Ne.Pa) (pl : List Ne.Pc) (f fc m c' n c'' : Nat) (hf : b.fs.length = f) (hm : ps.length = m) (hn : pl.length = n) (I E : Int) (hE : Ne.ckA b ps pl = (I, E))
    (w : World) (hF : Rows Ne.rcL 4 w A b.fs) (hP : Ne.PaM w B ps) (hL : Rows Ne.pcL 4 w C pl) :
    Calls Try.prog 64 #[.agg (boW b A f fc), .slice B m c', .slice C n c''] w fun e w' => ∃ v, e = .returned (.tuple #[v, .int .i64 I, .int .i64 E]) ∧ Below w.heap.size w w' ∧
      (E = 0 → ∃ PA pc xs, v = .slice PA n pc ∧ n ≤ pc ∧ xs.length = n ∧ Ne.PcsM ps w' PA xs ∧ ∀ j, j < n → (xs.getD j Ne.zi).p = pl.getD j Ne.zc) ∧ ∃ a x y, v = .slice a x y := by
  have hB := (Below.refl w.heap.size w).alloc (Nat.le_refl _) (.cells (boW b A f fc) 33)
  have bB := Blk.new w 33 (boW b A f fc)
  have hrg := bB.range
  obtain ⟨x, hx⟩ : ∃ x, Ne.vAll b ps = x := ⟨_, rfl⟩
  have HC := Lib.hid (fun W h h' => valid_b b A B fc f c' m ps hf hm x hx W h h')
  have HF := Lib.hid (hF.below hB)
  have HP := Lib.hid (hP.below hB)
  have HL := Lib.hid (hL.below hB)
  have HN := Lib.hid hn
  have HI0 : Hid (E = 0 → I = 0) := Lib.hid (fun h => by have := (Ne.ckA_ok (b := b) (ps := ps) (pl := pl) (by rw [hE]; exact h)).2.2.2.2.2.2; rw [hE] at this; exact this)
  unfold Ne.ckA at hE
  rw [hx] at hE
  cases x with
  | false =>
    have HEE : Hid (I = 0 ∧ E = 70) := Lib.hid (by rw [if_neg (by simp)] at hE; cases hE; exact ⟨rfl, rfl⟩)
    clear hE hx hF hP hL
    go_enter Try.func64, Try.ntmps64
    go_wp2_with (refine ldm_bo hrg (by rfl) _ rfl rfl (Hid.out ?_))
    refine Lib.hid ?_
    go_wp2_with fail
    refine (HC.out _ HF.out HP.out).mono ?_
    rintro e w1 ⟨rfl, hb1⟩
    have hB1 := hB.trans (hb1.mono hB.size)
    go_wp2
    go_ret3
    exact ⟨.slice none 0 0, by rw [HEE.out.1, HEE.out.2]; rfl, hB1, (fun h => by rw [HEE.out.2] at h; cases h), _, _, _, rfl⟩
  | true =>
    rw [if_pos rfl] at hE
    obtain ⟨hvb, hvp⟩ := Ne.vAll_and hx
    by_cases h200 : 200 < n
    · rw [Ne.ckB_big (by omega)] at hE
      have HEE : Hid (I = 0 ∧ E = 4) := Lib.hid (by cases hE; exact ⟨rfl, rfl⟩)
      have d1 : decide ((200 : Int) < (n : Int)) = true := by simp; omega
      clear hE hx hF hP hL
      go_enter Try.func64, Try.ntmps64
      go_wp2_with (refine ldm_bo hrg (by rfl) _ rfl rfl (Hid.out ?_))
      refine Lib.hid ?_
      go_wp2_with fail
      refine (HC.out _ HF.out HP.out).mono ?_
      rintro e w1 ⟨rfl, hb1⟩
      have hB1 := hB.trans (hb1.mono hB.size)
      go_wp2
      go_ret3
      exact ⟨.slice none 0 0, by rw [HEE.out.1, HEE.out.2]; rfl, hB1, (fun h => by rw [HEE.out.2] at h; cases h), _, _, _, rfl⟩
    have d1 : decide ((200 : Int) < (n : Int)) = false := by simp; omega
    have h2 : n ≤ 200 := by omega
    have h60 := Ne.vPa_len hvp
    rw [hm] at h60
    have HML := Lib.hid (fun p y (hy : Ne.rgB ps p = y) W h => maylie_b B ps c' m hm h60 p y hy W h)
    have HLY := Lib.hid (fun (p : Ne.Pc) (hp : Ne.lsB ps p = true) (N : Nat) (hN : (Ne.lyg ps p).length = N) W (h : Ne.PaM W B ps) =>
      show Calls Try.prog 58 #[.slice B m c', .agg (Ne.pcL p).toArray] W (fun e w' => ∃ v, e = .returned v ∧ w'.ownsRow W.heap.size 76 2 v N (flat (Ne.lyg ps p)) ∧ Below W.heap.size W w') from by
        obtain ⟨x1, y1, i, ei, hi⟩ := Ne.lsB_ok hp
        rw [hm] at hi
        obtain ⟨pp, px, py, pt⟩ := p
        dsimp only at x1 y1 ei
        subst ei
        exact lying_b B ps c' m i hm hi px py pt x1 y1 (Ne.vPa_at hvp (by omega)) N (by rw [← hN, Ne.lyg_len]; show _ = (ps.getD ((i : Nat) : Int).toNat Ne.za).o.length; rw [Int.toNat_natCast]) _ rfl W h)
    have H1 : Hid (∀ k, k < n → Ne.fst (Ne.rgI ps pl) k = k → Ne.rgI ps pl k = false → I = k ∧ E = 2) := Lib.hid (fun k hk h hf => by
      have := hE.symm.trans (Ne.ckB_rg hn h2 hk h hf); cases this; exact ⟨rfl, rfl⟩)
    have HCP := Lib.hid (fun (a : Ne.fst (Ne.rgI ps pl) n = n) (xs : List Ne.Pi) (PA : Option Addr) (pc : Nat) (hxn : xs.length = n) (hpc : n ≤ pc) (hls : ∀ j, j < n → Ne.lsB ps (xs.getD j Ne.zi).p = true) (hpl : ∀ j, j < n → (xs.getD j Ne.zi).p = pl.getD j Ne.zc) W h1 h2' =>
      checkpieces_b ps hvp b hvb A f fc hf xs pl PA n pc hxn h2 hpc hls hpl I E
        (Lib.hid fun k hk h hf => by have := hE.symm.trans (Ne.ckB_on hn h2 a hk h hf); cases this; exact ⟨rfl, rfl⟩)
        (Lib.hid fun a' k hk h hf => by have := hE.symm.trans (Ne.ckB_cl hn h2 a a' hk h hf); cases this; exact ⟨rfl, rfl⟩)
        (Lib.hid fun a' a'' k hk h hf => by have := hE.symm.trans (Ne.ckB_cf hn h2 a a' a'' hk h hf); cases this; exact ⟨rfl, rfl⟩)
        (Lib.hid fun a' a'' a3 => by have := hE.symm.trans (Ne.ckB_ok hn h2 a a' a'' a3); cases this; exact ⟨rfl, rfl⟩) W h1 h2')
    have HBD := Lib.hid (fun p (hp : Ne.lsB ps p = true) => Ne.lyg_bd hvp hp)
    obtain ⟨i0, hi0, hz0, hs0, hy0⟩ := info_parts infoPi3
    clear hE hx hF hP hL hf hm hn hvb hvp
    go_enter Try.func64, Try.ntmps64
    go_wp2_with (refine ldm_bo hrg (by rfl) _ rfl rfl (Hid.out ?_))
    refine Lib.hid ?_
    go_wp2_with fail
    refine (HC.out _ HF.out HP.out).mono ?_
    rintro e w1 ⟨rfl, hb1⟩
    have hB1 := hB.trans (hb1.mono hB.size)
    have bB1 := bB.below hb1 bB.lt
    have HF1 := Lib.hid (HF.out.below hb1)
    have HP1 := Lib.hid (HP.out.below hb1)
    have HL1 := Lib.hid (HL.out.below hb1)
    clear hrg bB HF HP HL hB hb1
    go_wp2
    clear d1
    go_loopw [6, 22] (fun v i wr => ∃ (k : Nat) (xs : List Ne.Pi), k ≤ n ∧ i = .int .i64 k ∧ Ne.fst (Ne.rgI ps pl) k = k ∧ xs.length = k ∧ wr.ownsRow w1.heap.size 121 5 v k (flt Ne.piL xs) ∧ (∀ j, j < k → Ne.PiOk ps wr (xs.getD j Ne.zi) ∧ (xs.getD j Ne.zi).p = pl.getD j Ne.zc ∧ Ne.Away v (xs.getD j Ne.zi) ∧ ∀ g off, (xs.getD j Ne.zi).a = some ⟨g, off, none⟩ → g < wr.heap.size) ∧ Below w1.heap.size w1 wr) (fun _ i _ => n - (intOf i).toNat)
    case atStart => exact ⟨0, [], Nat.zero_le _, rfl, rfl, rfl, World.ownsRow_nil _ _ _ _, fun j hj => by omega, Below.refl _ _⟩
    case round =>
      obtain ⟨k, xs, hk, rfl, hv, hxl, hO, hok, hb⟩ := hrel
      have HVK := Lib.hid hv
      have HOK := Lib.hid hok
      have HO := Lib.hid hO
      clear hv hok hO
      by_cases hlt : k < n
      · obtain ⟨gq, oq, hCe, hg, hc⟩ := (HL1.out.below hb).at (z := Ne.zc) (by rw [HN.out]; omega)
        subst hCe
        have hck := hc k (by rw [HN.out]; exact hlt)
        obtain ⟨p, hp⟩ : ∃ p, pl.getD k Ne.zc = p := ⟨_, rfl⟩
        rw [hp] at hck
        have HPP := Lib.hid hp
        have hb2 := hb.alloc hb.size (.cells (Ne.pcL p).toArray 40)
        have bN := Blk.new wr 40 (Ne.pcL p).toArray
        have hrN := bN.range
        obtain ⟨y, hy⟩ : ∃ y, Ne.rgB ps p = y := ⟨_, rfl⟩
        have HY : Hid (Ne.rgI ps pl k = y) := Lib.hid (by unfold Ne.rgI; rw [hp, hy])
        have HR := Lib.hid (HML.out p y hy)
        clear hc hp
        cases y with
        | false =>
          have HEE := Lib.hid (H1.out k hlt HVK.out HY.out)
          clear hy
          go_wp2_with (first | refine ldm_pc hck (by rfl) _ rfl rfl ?_ | refine ldm_pc hrN (by rfl) _ rfl rfl ?_)
          refine (HR.out _ (HP1.out.below hb2)).mono ?_
          rintro e w2 ⟨rfl, hb3⟩
          have hb4 := hb2.trans (hb3.mono hb2.size)
          go_wp2
          go_ret3
          exact ⟨.slice none 0 0, by rw [HEE.out.1, HEE.out.2]; rfl, hB1.trans (hb4.mono hB1.size), (fun h => by rw [HEE.out.2] at h; cases h), _, _, _, rfl⟩
        | true =>
          have hls := Ne.rg_ls hy
          obtain ⟨N, hN⟩ : ∃ N, (Ne.lyg ps p).length = N := ⟨_, rfl⟩
          have HLp := Lib.hid (HLY.out p hls N hN)
          have HNN := Lib.hid hN
          clear hy hls hN
          go_wp2_with (first | refine ldm_pc hck (by rfl) _ rfl rfl ?_ | refine ldm_pc hrN (by rfl) _ rfl rfl ?_)
          refine (HR.out _ (HP1.out.below hb2)).mono ?_
          rintro e w2 ⟨rfl, hb3⟩
          have hb4 := hb2.trans (hb3.mono hb2.size)
          go_wp2
          have bN2 := bN.below hb3 bN.lt
          have hba := (Below.refl wr.heap.size wr).alloc (Nat.le_refl _) (.cells (Ne.pcL p).toArray 40)
          have hkeep : Below wr.heap.size wr w2 := hba.trans (hb3.mono hba.size)
          have hlP := bN2.lt
          have hO2 := own_keepE (HO.out.alloc (.cells (Ne.pcL p).toArray 40)) hb3
          have HLT := Lib.hid HO.out.lt
          clear hrN hck bN hba
          refine wp_region_noPanic ?_
          refine wp_region_held (S := fun V => V.rangeAt wr.heap.size 0 (Ne.pcL p)) (by kernel_rfl) ?_
          change wpAnyH _ _ _ _ _ _ _ _ (World.drew _)
          have hS : (fun V => World.rangeAt V wr.heap.size 0 (Ne.pcL p)) w2.drew := bN2.drew.range
          have hd : Below w2.heap.size w2 w2.drew := (Below.refl _ _).drew
          have hlP2 : wr.heap.size < w2.drew.heap.size := hlP
          have hO3 := own_keepE hO2 hd
          generalize World.drew w2 = V0 at *
          refine takeD (i := 0) (d := some 32) (v := ?_) rfl rfl (by kernel_rfl) (by decide +kernel) (by decide +kernel) (fun _ _ _ h => h) (Or.inl ⟨by first | kernel_rfl | rfl, ?_⟩) hS ?_
          rotate_left
          · intro w' hT; first | (go_simp; done) | (go_simp; with_reducible rfl)
          refine takeD (i := 1) (d := some 33) (v := ?_) rfl rfl (by kernel_rfl) (by decide +kernel) (by decide +kernel) (fun _ _ _ h => h) (Or.inl ⟨by first | kernel_rfl | rfl, ?_⟩) hS ?_
          rotate_left
          · intro w' hT; have t0 := hT 0 _ rfl; have t1 := hT 1 _ rfl; have t2 := hT 2 _ rfl; have t3 := hT 3 _ rfl; simp only [Nat.zero_add] at t0 t1 t2 t3; first | (go_simp; done) | (go_simp; with_reducible rfl)
          refine takeD (i := 2) (d := some 34) (v := ?_) rfl rfl (by kernel_rfl) (by decide +kernel) (by decide +kernel) (fun _ _ _ h => h) (Or.inl ⟨by first | kernel_rfl | rfl, ?_⟩) hS ?_
          rotate_left
          · intro w' hT; first | (go_simp; done) | (go_simp; with_reducible rfl)
          refine takeD (i := 3) (d := some 35) (v := ?_) rfl rfl (by kernel_rfl) (by decide +kernel) (by decide +kernel) (fun _ _ _ h => h) (Or.inl ⟨by first | kernel_rfl | rfl, ?_⟩) hS ?_
          rotate_left
          · intro w' hT; have t0 := hT 0 _ rfl; have t1 := hT 1 _ rfl; have t2 := hT 2 _ rfl; have t3 := hT 3 _ rfl; simp only [Nat.zero_add] at t0 t1 t2 t3; first | (go_simp; done) | (go_simp; with_reducible rfl)
          refine wpAnyH_oneE (i := 4) (by decide +kernel) rfl (by kernel_rfl) (fun K hK' => ?_)
          go_simp
          have hb5 := hb4.trans (hd.mono hb4.size)
          refine (HLp.out V0 (HP1.out.below hb5)).mono ?_
          rintro e V1 ⟨v1, rfl, hLO, hb6⟩
          have hS1 : World.rangeAt V1 wr.heap.size 0 (Ne.pcL p) := rangeAt_below hS hlP2 hb6
          refine hK' _ _ ⟨hS1, ?_⟩
          clear hK' K
          have hlt1 := hLO.lt
          rw [← HNN.out] at hLO
          obtain ⟨A1, c1, rfl, hpt, hc1⟩ := pts_of_owns' hLO
          rw [HNN.out] at hlt1 hc1 ⊢
          have hb7 := hb5.trans (hb6.mono hb5.size)
          have hO4 := own_keepE hO3 hb6
          refine takeD (i := 5) (d := some 37) (v := .agg (Ne.piL ⟨p, A1, N, c1⟩).toArray) rfl rfl (by kernel_rfl) (by decide +kernel) (by decide +kernel) (fun _ _ _ h => h) (Or.inl ⟨by first | kernel_rfl | rfl, ?_⟩) hS1 ?_
          · intro w' hT; first | (go_simp; done) | (go_simp; with_reducible rfl)
          refine wpAnyH_oneE (i := 6) (by decide +kernel) rfl (by kernel_rfl) (fun K hK' => ?_)
          go_simp
          have hS2 : World.rangeAt (V1.alloc (.cells (Ne.piL ⟨p, A1, N, c1⟩).toArray 121)) wr.heap.size 0 (Ne.pcL p) := rangeAt_below hS1 (by have := hb6.size; omega) ((Below.refl V1.heap.size V1).alloc (Nat.le_refl _) _)
          refine hK' _ _ ⟨hS2, ?_⟩
          clear hK' K
          have hkA : Below wr.heap.size wr V1 := (hkeep.trans (hd.mono hkeep.size)).trans (hb6.mono (hkeep.trans (hd.mono hkeep.size)).size)
          have hkB := hkA.alloc hkA.size (.cells (Ne.piL ⟨p, A1, N, c1⟩).toArray 121)
          have hb8 := hb7.alloc hb7.size (.cells (Ne.piL ⟨p, A1, N, c1⟩).toArray 121)
          have hO5 := hO4.alloc (.cells (Ne.piL ⟨p, A1, N, c1⟩).toArray 121)
          have hV01 := hb6.size
          have hwV0 := (hkeep.trans (hd.mono hkeep.size)).size
          have hsz1 : (V1.alloc (.cells (Ne.piL ⟨p, A1, N, c1⟩).toArray 121)).heap.size = V1.heap.size + 1 := World.size_alloc _ _
          have hpt2 := hpt.below ((Below.refl V1.heap.size V1).alloc (Nat.le_refl _) (.cells (Ne.piL ⟨p, A1, N, c1⟩).toArray 121))
          have hnew := new_cells' V1 121 (Ne.piL ⟨p, A1, N, c1⟩) rfl
          generalize V1.alloc (.cells (Ne.piL ⟨p, A1, N, c1⟩).toArray 121) = V2 at *
          refine wpAnyH_oneE (i := 7) (by decide +kernel) rfl (by kernel_rfl) (fun K hK' => ?_)
          refine wp_append_own_at _ _ 86 rfl w1.heap.size 121 i0 _ 5 56 Try.underlying86 hi0 hz0 hs0 hy0 rfl (by decide) u6 k (flt Ne.piL xs) (by rfl) hO5 ⟨V1.heap.size, 0, none⟩ 1 1 (Ne.piL ⟨p, A1, N, c1⟩) (by rfl) rfl hnew (Ne.encPi.one _) (by unfold maxLen; omega) (by omega) hb8.size ?_
          intro v' w9 hown' hgrow hblk
          have hS3 : World.rangeAt w9 wr.heap.size 0 (Ne.pcL p) := range_grown hS2 (by omega) hgrow (fun e => by have := (HLT.out _ e).2; omega)
          refine hK' _ _ ⟨hS3, ?_⟩
          clear hK' K
          refine takeD (i := 8) (d := some 6) (v := v') rfl rfl (by kernel_rfl) (by decide +kernel) (by decide +kernel) (fun _ _ _ h => h) (Or.inl ⟨by first | kernel_rfl | rfl, ?_⟩) hS3 ?_
          · intro w' hT; first | (go_simp; done) | (go_simp; with_reducible rfl)
          refine wpAnyH_done (by decide +kernel) ?_ _
          refine NoPanic.normal ?_
          have hb9 := hb8.grown hgrow hb8.size (fun s e => (HLT.out s e).1)
          have hgs : V2.heap.size ≤ w9.heap.size := by have hg9 := hgrow; obtain ⟨_, _, _, g4, _⟩ := hg9; exact g4
          have HREL : Hid (∀ j, j < k + 1 → Ne.PiOk ps w9 ((xs ++ [(⟨p, A1, N, c1⟩ : Ne.Pi)]).getD j Ne.zi) ∧ ((xs ++ [(⟨p, A1, N, c1⟩ : Ne.Pi)]).getD j Ne.zi).p = pl.getD j Ne.zc ∧ Ne.Away v' ((xs ++ [(⟨p, A1, N, c1⟩ : Ne.Pi)]).getD j Ne.zi) ∧ ∀ g off, ((xs ++ [(⟨p, A1, N, c1⟩ : Ne.Pi)]).getD j Ne.zi).a = some ⟨g, off, none⟩ → g < w9.heap.size) := Lib.hid (fun j hj => by
            by_cases hjk : j < k
            · have e : (xs ++ [(⟨p, A1, N, c1⟩ : Ne.Pi)]).getD j Ne.zi = xs.getD j Ne.zi := by
                rw [List.getD_eq_getElem?_getD, List.getD_eq_getElem?_getD, List.getElem?_append_left (by omega)]
              rw [e]
              obtain ⟨o1, o2, o3, o4⟩ := HOK.out j hjk
              refine ⟨⟨pts_grown (o1.pts.below hkB) hgrow (fun g off h => o3 g off h), o1.len, o1.cap⟩, o2, fun g off h => ?_, fun g off h => by have := o4 g off h; omega⟩
              rcases hblk with h1 | h1
              · rw [h1]; exact o3 g off h
              · rw [h1]; intro h5; have := o4 g off h; injection h5 with h5; omega
            · obtain rfl : j = k := by omega
              have e : (xs ++ [(⟨p, A1, N, c1⟩ : Ne.Pi)]).getD j Ne.zi = ⟨p, A1, N, c1⟩ := by
                rw [List.getD_eq_getElem?_getD, List.getElem?_append_right (by omega), hxl]; simp
              rw [e]
              have hg5 : ∀ g off, A1 = some ⟨g, off, none⟩ → V0.heap.size ≤ g ∧ g < V1.heap.size := fun g off h => hlt1 g (by rw [h]; rfl)
              refine ⟨⟨pts_grown hpt2 hgrow (fun g off h => ?_), HNN.out, hc1⟩, HPP.out.symm, fun g off h => ?_, fun g off h => by have := hg5 g off h; omega⟩
              · intro h5; have := (HLT.out _ h5).2; have := hg5 g off h; omega
              · have hh := hg5 g off h
                rcases hblk with h1 | h1
                · rw [h1]; intro h5; have := (HLT.out _ h5).2; omega
                · rw [h1]; intro h5; injection h5 with h5; omega)
          have HOWN : Hid (w9.ownsRow w1.heap.size 121 5 v' (k + 1) (flt Ne.piL (xs ++ [(⟨p, A1, N, c1⟩ : Ne.Pi)]))) := Lib.hid (by rw [flt_append, flt_one]; exact hown')
          go_wp2
          go_roundw
          case rel => exact ⟨k + 1, xs ++ [(⟨p, A1, N, c1⟩ : Ne.Pi)], by omega, by go_num, Ne.fst_step HVK.out HY.out, by rw [List.length_append, hxl]; rfl, HOWN.out, HREL.out, hb9⟩
          case measure => simp [intOf]; omega
      · obtain rfl : n = k := by omega
        have HA := Lib.hid HVK.out
        have hO9 := HO.out
        rw [← hxl] at hO9
        obtain ⟨PA, pc, hve, hrows, hcp, _⟩ := rows_of_owns Ne.encPi hO9
        subst hve
        have HPX : Hid (Ne.PcsM ps wr PA xs) := Lib.hid ⟨hrows, fun j hj => (HOK.out j (by omega)).1⟩
        have HPL : Hid (∀ j, j < n → (xs.getD j Ne.zi).p = pl.getD j Ne.zc) := Lib.hid (fun j hj => (HOK.out j hj).2.1)
        have HCK := Lib.hid (HCP.out HA.out xs PA pc hxl (by omega) (fun j hj => by rw [HPL.out j hj]; have := Ne.fst_at HA.out hj; unfold Ne.rgI at this; exact Ne.rg_ls this) HPL.out)
        have hrg2 := (bB1.below hb bB1.lt).range
        rw [hxl]
        clear hO9 hrows
        go_wp2_with (refine ldm_bo hrg2 (by rfl) _ rfl rfl (Hid.out ?_))
        refine Lib.hid ?_
        go_wp2_with fail
        refine (HCK.out _ (HF1.out.below hb) HPX.out).mono ?_
        rintro e w3 ⟨rfl, hb3⟩
        have hb4 := hb.trans (hb3.mono hb.size)
        by_cases h0 : E = 0
        · subst h0
          have hI := HI0.out rfl
          subst hI
          go_wp2
          go_ret3
          exact ⟨.slice PA n pc, rfl, hB1.trans (hb4.mono hB1.size), ⟨PA, pc, rfl, by omega, xs, hxl, HPX.out.below hb3, by have := HPL.out; simpa only [List.getD_eq_getElem?_getD] using this⟩, _, _, _, rfl⟩
        · have hne : (E == 0) = false := by simp; exact h0
          go_wp2
          go_ret3
          exact ⟨.slice none 0 0, rfl, hB1.trans (hb4.mono hB1.size), (fun h => absurd h h0), _, _, _, rfl⟩
end Go.Proofs.Ytlikmlhlfbdchaa
/- nest: Check, Waste2 of the program; lists of numbers that are the same. -/
namespace Go.Proofs.Ytlikmlhlfbdchaa
open Go.RowKit Go.Shelf
set_option linter.unusedVariables false
set_option maxRecDepth 100000 in
set_option maxHeartbeats 2000000 in
theorem Check_b (b : Ne.Bo) (A B C : Option Addr) (ps : List Ne.Pa) (pl : List Ne.Pc) (f fc m c' n c'' : Nat) (hf : b.fs.length = f) (hm : ps.length = m) (hn : pl.length = n) (I E : Int) (hE : Ne.ckA b ps pl = (I, E))
    (w : World) (hF : Rows Ne.rcL 4 w A b.fs) (hP : Ne.PaM w B ps) (hL : Rows Ne.pcL 4 w C pl) :
    Calls Try.prog 24 #[.agg (boW b A f fc), .slice B m c', .slice C n c''] w fun e w' => e = .returned (.tuple #[.int .i64 I, .int .i64 E]) ∧ Below w.heap.size w w' := by
  have hB := (Below.refl w.heap.size w).alloc (Nat.le_refl _) (.cells (boW b A f fc) 33)
  have bB := Blk.new w 33 (boW b A f fc)
  have hrg := bB.range
  have HC := Lib.hid (fun W h h' h'' => lay_b b A B C ps pl f fc m c' n c'' hf hm hn I E hE W h h' h'')
  have HF := Lib.hid (hF.below hB)
  have HP := Lib.hid (hP.below hB)
  have HL := Lib.hid (hL.below hB)
  clear hF hP hL hf hm hn hE
  go_enter Try.func24, Try.ntmps24
  go_wp2_with (refine ldm_bo hrg (by rfl) _ rfl rfl (Hid.out ?_))
  refine Lib.hid ?_
  go_wp2_with fail
  refine (HC.out _ HF.out HP.out HL.out).mono ?_
  rintro e w1 ⟨v, rfl, hb1, _⟩
  go_wp2
  go_ret2
  exact ⟨rfl, hB.trans (hb1.mono hB.size)⟩
set_option maxRecDepth 100000 in
set_option maxHeartbeats 2000000 in
theorem same_in (v v' : Value) (l : List Int) (n : Nat) (hn : l.length = n) (h : n ≤ 100000) (w : World) (B B' : Nat) (hA : w.ownsRow B 3 1 v n (Ne.inL l)) (hB : w.ownsRow B' 3 1 v' n (Ne.inL l)) :
    Calls Try.prog 30 #[v, v'] w fun e w' => e = .returned (.bool true) ∧ Below w.heap.size w w' := by
  obtain ⟨A1, c1, rfl⟩ := own_slice hA
  obtain ⟨A2, c2, rfl⟩ := own_slice hB
  have HA := Lib.hid hA
  have HB := Lib.hid hB
  have HN := Lib.hid hn
  have hne : ((n : Int) == (n : Int)) = true := by simp
  clear hA hB hn
  go_enter Try.func30, Try.ntmps30
  go_wp2
  clear hne
  go_loopw [13] (fun i wr => ∃ k : Nat, k ≤ n ∧ i = .int .i64 k ∧ Below w.heap.size w wr) (fun i _ => n - (intOf i).toNat)
  case atStart => exact ⟨0, Nat.zero_le _, rfl, Below.refl _ _⟩
  case round =>
    obtain ⟨k, hk, rfl, hb⟩ := hrel
    by_cases hlt : k < n
    · obtain ⟨g1, d1, e1⟩ := own_some HA.out (by omega)
      obtain ⟨g2, d2, e2⟩ := own_some HB.out (by omega)
      cases e1
      cases e2
      obtain ⟨x, hx⟩ : ∃ x, l.getD k 0 = x := ⟨_, rfl⟩
      have hget : (Ne.inL l)[k]? = some (.int .i64 x) := by
        unfold Ne.inL
        rw [List.getElem?_map, ← hx, List.getD_eq_getElem?_getD, List.getElem?_eq_getElem (by rw [HN.out]; exact hlt)]; rfl
      have cc := ((own_keepE HA.out hb).cellAt k (by omega)).trans hget
      have dd := ((own_keepE HB.out hb).cellAt k (by omega)).trans hget
      have hxx : (x == x) = true := by simp
      have hlm : (k : Int) < (n : Int) := by omega
      clear hget hx
      go_wp2
      go_quiet (fail)
      have hb2 := Go.Proofs.Ytlikmlhlfbdchaa.Below.drewN (n := nq) hb
      generalize wr.drewN nq = wd at *
      clear cc dd
      go_wp2
      go_roundw
      case rel => exact ⟨k + 1, by omega, by go_num, hb2⟩
      case measure => simp [intOf]; omega
    · obtain rfl : n = k := by omega
      go_wp2
      go_ret
      exact ⟨rfl, hb⟩
end Go.Proofs.Ytlikmlhlfbdchaa
/- nest: Waste2 of the program. -/
namespace Go.Proofs.Ytlikmlhlfbdchaa
open Go.RowKit Go.Shelf
set_option linter.unusedVariables false
namespace Ne
def arP (ps : List Pa) (j : Nat) : Int := Geo.areaK (ps.getD j za).o (ps.getD j za).o.length
/-- counts times areas of the first j parts -/
def smC (ps : List Pa) (l : List Int) : Nat → Int
  | 0 => 0
  | j + 1 => smC ps l j + l.getD j 0 * arP ps j
theorem smC_set (ps : List Pa) (l : List Int) (i : Nat) (hi : i < l.length) : ∀ j, smC ps (l.set i (l.getD i 0 + 1)) j = smC ps l j + (if i < j then arP ps i else 0)
  | 0 => by simp [smC]
  | j + 1 => by
    have ih := smC_set ps l i hi j
    unfold smC
    rw [ih]
    by_cases e : i = j
    · subst e
      have : (l.set i (l.getD i 0 + 1)).getD i 0 = l.getD i 0 + 1 := by
        rw [List.getD_eq_getElem?_getD, List.getElem?_set_self hi]; rfl
      rw [this, if_neg (by omega), if_pos (by omega), Int.add_mul]; omega
    · have : (l.set i (l.getD i 0 + 1)).getD j 0 = l.getD j 0 := by
        simp only [List.getD_eq_getElem?_getD]
        rw [List.getElem?_set_ne (by omega)]
      rw [this]
      by_cases h : i < j
      · rw [if_pos h, if_pos (by omega)]; omega
      · rw [if_neg h, if_neg (by omega)]; omega
theorem smC_zero (ps : List Pa) (m : Nat) : ∀ j, smC ps (List.replicate m 0) j = 0
  | 0 => rfl
  | j + 1 => by
    unfold smC
    rw [smC_zero ps m j, List.getD_eq_getElem?_getD, List.getElem?_replicate]
    split <;> simp
/-- what the places cover, part by part -/
theorem wsK_sum (b : Bo) (ps : List Pa) (pl : List Pc) (m : Nat) : ∀ k, (∀ j, j < k → ∃ i : Nat, (pl.getD j zc).p = i ∧ i < m) → wsK b ps pl k = 2 * b.w * b.h - smC ps (cnL m pl k) m
  | 0, _ => by unfold wsK cnL; rw [smC_zero]; omega
  | k + 1, h => by
    obtain ⟨i, e, hi⟩ := h k (by omega)
    have hl := cnL_len m pl k
    unfold wsK cnL
    rw [wsK_sum b ps pl m k (fun j hj => h j (by omega)), e, Int.toNat_natCast, smC_set ps _ i (by omega), if_pos hi]
    unfold arI arP
    rw [e, Int.toNat_natCast]
    omega
end Ne
set_option maxRecDepth 100000 in
set_option maxHeartbeats 4000000 in
theorem Waste_b (b : Ne.Bo) (A B C : Option Addr) (ps : List Ne.Pa) (pl : List Ne.Pc) (f fc m c' n c'' : Nat) (hf : b.fs.length = f) (hm : ps.length = m) (hn : pl.length = n) (R E : Int) (hE : Ne.wsA b ps pl = (R, E))
    (w : World) (hF : Rows Ne.rcL 4 w A b.fs) (hP : Ne.PaM w B ps) (hL : Rows Ne.pcL 4 w C pl) :
    Calls Try.prog 31 #[.agg (boW b A f fc), .slice B m c', .slice C n c''] w fun e w' => e = .returned (.tuple #[.int .i64 R, .int .i64 E]) ∧ Below w.heap.size w w' := by
  have hB := (Below.refl w.heap.size w).alloc (Nat.le_refl _) (.cells (boW b A f fc) 33)
  have bB := Blk.new w 33 (boW b A f fc)
  have hrg := bB.range
  obtain ⟨I0, E0, hK⟩ : ∃ I0 E0, Ne.ckA b ps pl = (I0, E0) := ⟨_, _, rfl⟩
  obtain ⟨L, hLL⟩ : ∃ L, Ne.cnV b ps pl = L := ⟨_, rfl⟩
  have HC := Lib.hid (fun W h h' h'' => Count_of b A B C ps pl f fc m c' n c'' hm hn I0 E0 hK L hLL (Lib.hid (fun W a a' a'' => Check_b b A B C ps pl f fc m c' n c'' hf hm hn I0 E0 hK W a a' a'')) W h h' h'')
  have HF := Lib.hid (hF.below hB)
  have HP := Lib.hid (hP.below hB)
  have HL := Lib.hid (hL.below hB)
  have HM := Lib.hid hm
  unfold Ne.wsA at hE
  by_cases h0 : E0 = 0
  · subst h0
    have hok := Ne.ckA_ok (b := b) (ps := ps) (pl := pl) (by rw [hK])
    rw [hK, if_pos rfl, hn] at hE
    unfold Ne.cnV at hLL
    rw [hK, if_pos rfl, hn, hm] at hLL
    rw [hn] at hok
    obtain ⟨hvb, hvp⟩ := Ne.vAll_and hok.1
    have hn2 := hok.2.1
    have h60 := Ne.vPa_len hvp
    rw [hm] at h60
    have hsum := Ne.wsK_sum b ps pl m n (fun j hj => by
      have := hok.2.2.1 j hj
      unfold Ne.rgI at this
      obtain ⟨_, _, i, ei, hi⟩ := Ne.lsB_ok (Ne.rg_ls this)
      exact ⟨i, ei, by omega⟩)
    rw [hLL] at hsum
    have hlen : L.length = m := by rw [← hLL]; exact Ne.cnL_len m pl n
    have HBD := Lib.hid (fun j => by have := Ne.cnL_bd m pl n j; rw [hLL] at this; exact this)
    obtain ⟨M, hM⟩ : ∃ M, 2 * b.w * b.h = M := ⟨_, rfl⟩
    rw [hM] at hsum
    have HEE : Hid (R = M - Ne.smC ps L m ∧ E = 0) := Lib.hid (by cases hE; exact ⟨hsum, rfl⟩)
    obtain ⟨⟨bw1, bw2⟩, ⟨bh1, bh2⟩, _, _, _⟩ := Ne.vBo_in hvb
    obtain ⟨m1, m2⟩ := mul_bd (a := 2 * b.w) (b := b.h) (A := 120000) (B := 60000) (by omega) (by omega) (by omega) (by omega)
    rw [hM] at m1 m2
    have HAR := Lib.hid (fun W => area2_b b A f fc ⟨bw1, bw2⟩ ⟨bh1, bh2⟩ M hM W)
    have HPA := Lib.hid (fun j (hj : j < m) N (hN : (ps.getD j Ne.za).o.length = N) D dc K (hK : Geo.areaK (ps.getD j Ne.za).o (ps.getD j Ne.za).o.length = K) W h => partarea_b (ps.getD j Ne.za) D N dc hN (Ne.vPa_at hvp (by omega)) K hK W h)
    have HKB : Hid (∀ j, j < m → -3200000000 ≤ Ne.arP ps j ∧ Ne.arP ps j ≤ 3200000000) := Lib.hid (fun j hj => by
      have hv := valid_of (Ne.vPa_at hvp (q := j) (by omega))
      have := Ne.area_bd hv (ps.getD j Ne.za).o.length hv.2.1
      have h64 := hv.2.1
      unfold Ne.arP; omega)
    have HLN := Lib.hid hlen
    clear hE hK hok hvb hvp hF hP hL hf hm hn hM hsum hLL hlen
    go_enter Try.func31, Try.ntmps31
    go_wp2_with (refine ldm_bo hrg (by rfl) _ rfl rfl (Hid.out ?_))
    refine Lib.hid ?_
    go_wp2_with fail
    refine (HC.out _ HF.out HP.out HL.out).mono ?_
    rintro e w1 ⟨v, rfl, hO, hb1⟩
    have hB1 := hB.trans (hb1.mono hB.size)
    have hrg1 := (bB.below hb1 bB.lt).range
    have HP1 := Lib.hid (HP.out.below hb1)
    rw [HLN.out] at hO
    obtain ⟨vA, vc, rfl⟩ := own_slice hO
    clear hrg bB HF HP HL hB hb1
    go_wp2_with (refine ldm_bo hrg1 (by rfl) _ rfl rfl (Hid.out ?_))
    refine Lib.hid ?_
    go_wp2_with fail
    refine (HAR.out _).mono ?_
    rintro e w2 ⟨rfl, hb2⟩
    have hB2 := hB1.trans (hb2.mono hB1.size)
    have HP2 := Lib.hid (HP1.out.below hb2)
    have HO2 := Lib.hid (own_keepE hO hb2)
    clear hrg1 hO hb2 HP1 hB1
    go_wp2
    go_loopw [10, 27] (fun v i wr => ∃ (k : Nat) (x : Int), k ≤ m ∧ i = .int .i64 k ∧ v = .int .i64 x ∧ x = M - Ne.smC ps L k ∧ (-(8000000000 + 700000000000 * (k : Int)) ≤ x ∧ x ≤ 8000000000 + 700000000000 * (k : Int)) ∧ Below w2.heap.size w2 wr) (fun _ i _ => m - (intOf i).toNat)
    case atStart => exact ⟨0, M, Nat.zero_le _, rfl, rfl, by unfold Ne.smC; omega, by omega, Below.refl _ _⟩
    case round =>
      obtain ⟨k, x, hk, rfl, rfl, hx, ⟨xb1, xb2⟩, hb⟩ := hrel
      have HX := Lib.hid hx
      clear hx
      by_cases hlt : k < m
      · obtain ⟨gv, cv, ev⟩ := own_some HO2.out (by omega)
        cases ev
        obtain ⟨y, hy⟩ : ∃ y, L.getD k 0 = y := ⟨_, rfl⟩
        have hyb := HBD.out k
        rw [hy] at hyb
        have hget : (Ne.inL L)[k]? = some (.int .i64 y) := by
          unfold Ne.inL
          rw [List.getElem?_map, ← hy, List.getD_eq_getElem?_getD, List.getElem?_eq_getElem (by rw [HLN.out]; exact hlt)]; rfl
        have cc := ((own_keepE HO2.out hb).cellAt k (by omega)).trans hget
        obtain ⟨g2, o2, hBe, hg2, hc2⟩ := (HP2.out.below hb).open (by rw [HM.out]; omega)
        subst hBe
        obtain ⟨D, dc, d1, d2, d3, _⟩ := hc2 k (by rw [HM.out]; exact hlt)
        obtain ⟨N, hN⟩ : ∃ N, (ps.getD k Ne.za).o.length = N := ⟨_, rfl⟩
        obtain ⟨tt, htt⟩ : ∃ tt, (ps.getD k Ne.za).t = tt := ⟨_, rfl⟩
        obtain ⟨K, hK⟩ : ∃ K, Ne.arP ps k = K := ⟨_, rfl⟩
        have hkb := HKB.out k hlt
        rw [hK] at hkb
        have HPk := Lib.hid (HPA.out k hlt N hN D dc K hK)
        rw [htt] at HPk
        rw [hN] at d1
        rw [htt] at d2
        have HD3 := Lib.hid d3
        obtain ⟨q1, q2⟩ := mul_bd (a := y) (b := K) (A := 200) (B := 3200000000) (by omega) (by omega) (by omega) (by omega)
        obtain ⟨Z, hZ⟩ : ∃ Z, y * K = Z := ⟨_, rfl⟩
        rw [hZ] at q1 q2
        have hwz : IntKind.i64.wrap (y * K) = Z := by rw [hZ]; exact IntWalk.i64_in _ (by omega)
        have HS : Hid (x - Z = M - Ne.smC ps L (k + 1)) := Lib.hid (by rw [Ne.smC, hy, hK, hZ, HX.out]; omega)
        obtain ⟨hyb1, hyb2⟩ := hyb
        have hlm : (k : Int) < (m : Int) := by omega
        clear hget hc2 hy hN htt hK hkb d3 hZ
        go_wp2_with fail
        refine (HPk.out _ HD3.out).mono ?_
        rintro e w3 ⟨rfl, hb3⟩
        have hb4 := hb.trans (hb3.mono hb.size)
        go_wp2
        go_roundw
        case rel => exact ⟨k + 1, x - Z, by omega, by go_num, rfl, HS.out, by omega, hb4⟩
        case measure => simp [intOf]; omega
      · obtain rfl : m = k := by omega
        go_wp2
        go_ret2
        exact ⟨by rw [HEE.out.1, HEE.out.2, HX.out]; rfl, hB2.trans (hb.mono hB2.size)⟩
  · rw [hK, if_neg h0] at hE
    have HEE : Hid (R = 0 ∧ E = E0) := Lib.hid (by cases hE; exact ⟨rfl, rfl⟩)
    have hne : (E0 == 0) = false := by simp; exact h0
    clear hE hK hF hP hL hf hm hn hLL
    go_enter Try.func31, Try.ntmps31
    go_wp2_with (refine ldm_bo hrg (by rfl) _ rfl rfl (Hid.out ?_))
    refine Lib.hid ?_
    go_wp2_with fail
    refine (HC.out _ HF.out HP.out HL.out).mono ?_
    rintro e w1 ⟨v, rfl, _, hb1⟩
    have hB1 := hB.trans (hb1.mono hB.size)
    go_wp2
    go_ret2
    exact ⟨by rw [HEE.out.1, HEE.out.2]; rfl, hB1⟩
end Go.Proofs.Ytlikmlhlfbdchaa
/- nest: the law of checks. -/
namespace Go.Proofs.Ytlikmlhlfbdchaa
open Go.RowKit Go.Shelf
set_option linter.unusedVariables false
theorem cnV_len (b : Ne.Bo) (ps : List Ne.Pa) (pl : List Ne.Pc) : (Ne.cnV b ps pl).length ≤ 60 := by
  unfold Ne.cnV
  split
  · rename_i h
    rw [Ne.cnL_len]
    exact Ne.vPa_len (Ne.vAll_and (Ne.ckA_ok h).1).2
  · simp
set_option maxRecDepth 100000 in
set_option maxHeartbeats 16000000 in
theorem law_checks (b : Ne.Bo) (ps : List Ne.Pa) (pl : List Ne.Pc) (fA : Option Addr) (f fC : Nat) (pA : Option Addr) (m pC : Nat) (lA : Option Addr) (n lC : Nat) (hf : b.fs.length = f) (hm : ps.length = m) (hn : pl.length = n) (hfM : f ≤ 9223372036854775807) (hmM : m ≤ 9223372036854775807) (hnM : n ≤ 9223372036854775807) (hcap : n ≤ lC)
    (w : World) (hF : Rows Ne.rcL 4 w fA b.fs) (hP : Ne.PaM w pA ps) (hL : Rows Ne.pcL 4 w lA pl) :
    Calls Try.prog 5 #[.agg (dkA b fA f fC pA m pC lA n lC)] w fun e w' => e = .returned (.bool true) ∧ Below w.heap.size w w' := by
  have hB := (Below.refl w.heap.size w).alloc (Nat.le_refl _) (.cells (dkA b fA f fC pA m pC lA n lC) 37)
  have bD := Blk.new w 37 (dkA b fA f fC pA m pC lA n lC)
  have hrD := bD.range
  have HFW := Lib.hid (fun W h h' => few_b b fA f fC pA m pC lA n lC ps pl hm hn hmM hnM W h h')
  have HP := Lib.hid (hP.below hB)
  have HL := Lib.hid (hL.below hB)
  have HF := Lib.hid (hF.below hB)
  obtain ⟨I, E, hE⟩ : ∃ I E, Ne.ckA b ps pl = (I, E) := ⟨_, _, rfl⟩
  obtain ⟨R, E2, hR⟩ : ∃ R E2, Ne.wsA b ps pl = (R, E2) := ⟨_, _, rfl⟩
  obtain ⟨L, hLL⟩ : ∃ L, Ne.cnV b ps pl = L := ⟨_, rfl⟩
  obtain ⟨x, hx⟩ : ∃ x, Ne.vAll b ps = x := ⟨_, rfl⟩
  have HK1 := Lib.hid (fun W h h' h'' => Check_b b fA pA lA ps pl f fC m pC n lC hf hm hn I E hE W h h' h'')
  have HK2 := Lib.hid (fun W h h' h'' => rCheck_b b fA pA lA ps pl f fC m pC n lC hf hm hn hfM hmM hcap I E hE W h h' h'')
  have HV1 := Lib.hid (fun W h h' => valid_b b fA pA fC f pC m ps hf hm x hx W h h')
  have HV2 := Lib.hid (fun W h h' => rValid_b b fA pA fC f pC m ps hf hm hfM hmM x hx W h h')
  have HC1 := Lib.hid (fun W h h' h'' => Count_of b fA pA lA ps pl f fC m pC n lC hm hn I E hE L hLL HK1 W h h' h'')
  have HC2 := Lib.hid (fun W h h' h'' => rCount_of b fA pA lA ps pl f fC m pC n lC hm hn I E hE L hLL HK2 W h h' h'')
  have HW1 := Lib.hid (fun W h h' h'' => Waste_b b fA pA lA ps pl f fC m pC n lC hf hm hn R E2 hR W h h' h'')
  have HW2 := Lib.hid (fun W h h' h'' => rWaste_b b fA pA lA ps pl f fC m pC n lC hf hm hn hfM hmM hcap R E2 hR W h h' h'')
  have hl60 := cnV_len b ps pl
  rw [hLL] at hl60
  have hee : (E == E) = true := by simp
  have hii : (I == I) = true := by simp
  have hee2 : (E2 == E2) = true := by simp
  have hrr : (R == R) = true := by simp
  have hxx : (x == x) = true := by simp
  clear hP hL hF hm hn hf hE hR hLL hx hmM hfM hcap
  go_enter Try.func5, Try.ntmps5
  go_wp2_with (refine ldm_dk hrD (by rfl) _ rfl rfl ?_)
  refine (HFW.out _ HP.out HL.out).mono ?_
  rintro e w1 ⟨⟨r, rfl, _⟩, b1⟩
  have hB1 := hB.trans (b1.mono hB.size)
  have bD1 := bD.below b1 bD.lt
  have HP1 := Lib.hid (HP.out.below b1)
  have HF1 := Lib.hid (HF.out.below b1)
  have HL1 := Lib.hid (HL.out.below b1)
  clear bD HP HL HF hrD hB b1 HFW
  cases r with
  | false =>
    go_wp2_with fail
    refine (awake_any _).mono ?_
    rintro e w2 ⟨rfl, b2⟩
    go_wp2
    go_ret
    exact ⟨rfl, hB1.trans (b2.mono hB1.size)⟩
  | true =>
    have hb1 := desk_board bD1.range
    have q4 := bD1.cell 4
    have q5 := bD1.cell 5
    simp only [List.getElem?_toArray, List.getElem?_cons_zero, List.getElem?_cons_succ] at q4 q5
    go_wp2_with (refine ldm_bo hb1 (by rfl) _ rfl rfl (Hid.out ?_))
    refine Lib.hid ?_
    go_wp2_with fail
    refine (HK1.out _ HF1.out HP1.out HL1.out).mono ?_
    rintro e w2 ⟨rfl, b2⟩
    have hB2 := hB1.trans (b2.mono hB1.size)
    have bD2 := bD1.below b2 bD1.lt
    have HP2 := Lib.hid (HP1.out.below b2)
    have HF2 := Lib.hid (HF1.out.below b2)
    have HL2 := Lib.hid (HL1.out.below b2)
    clear hb1 q4 q5 bD1 b2 HP1 HF1 HL1
    have hb1 := desk_board bD2.range
    have q4 := bD2.cell 4
    have q5 := bD2.cell 5
    simp only [List.getElem?_toArray, List.getElem?_cons_zero, List.getElem?_cons_succ] at q4 q5
    go_wp2_with (refine ldm_bo hb1 (by rfl) _ rfl rfl (Hid.out ?_))
    refine Lib.hid ?_
    go_wp2_with fail
    refine (HK2.out _ HF2.out HP2.out HL2.out).mono ?_
    rintro e w3 ⟨rfl, b3⟩
    have hB3 := hB2.trans (b3.mono hB2.size)
    have bD3 := bD2.below b3 bD2.lt
    have HP3 := Lib.hid (HP2.out.below b3)
    have HF3 := Lib.hid (HF2.out.below b3)
    have HL3 := Lib.hid (HL2.out.below b3)
    clear hb1 q4 q5 bD2 b3 HP2 HF2 HL2
    have p0 : ∀ s : Ext w3, s.w.cell? ⟨w.heap.size, 0, none⟩ = some (.int .i64 b.w) := fun s => s.cell (bD3.cell 0)
    have p1 : ∀ s : Ext w3, s.w.cell? ⟨w.heap.size, 1, none⟩ = some (.int .i64 b.h) := fun s => s.cell (bD3.cell 1)
    have p2 : ∀ s : Ext w3, s.w.cell? ⟨w.heap.size, 2, none⟩ = some (.int .i64 b.g) := fun s => s.cell (bD3.cell 2)
    have p3 : ∀ s : Ext w3, s.w.cell? ⟨w.heap.size, 3, none⟩ = some (.slice fA f fC) := fun s => s.cell (bD3.cell 3)
    have p4 : ∀ s : Ext w3, s.w.cell? ⟨w.heap.size, 4, none⟩ = some (.slice pA m pC) := fun s => s.cell (bD3.cell 4)
    have HV3 := Lib.hid (fun s : Ext w3 => HV1.out s.w (HF3.out.below s.h) (HP3.out.below s.h))
    have HV4 := Lib.hid (fun s : Ext w3 => HV2.out s.w (HF3.out.below s.h) (HP3.out.below s.h))
    go_wp2
    refine wp_region_ext (by kernel_rfl) (by kernel_rfl) ?_
    repeat (go_big_quiet_step ((first | (go_at_call 26; refine calls_ext (HV3.out _)) | (go_at_call 27; refine calls_ext (HV4.out _)))))
    refine wpQuiet_nil ?_
    rintro _ ⟨s4, rfl⟩
    have hB4 := hB3.trans (s4.h.mono hB3.size)
    have bD4 := bD3.below s4.h bD3.lt
    have HP4 := Lib.hid (HP3.out.below s4.h)
    have HF4 := Lib.hid (HF3.out.below s4.h)
    have HL4 := Lib.hid (HL3.out.below s4.h)
    clear p0 p1 p2 p3 p4 bD3 HP3 HF3 HL3 HV3 HV4
    generalize s4.w = w4 at *
    have hb1 := desk_board bD4.range
    have q4 := bD4.cell 4
    have q5 := bD4.cell 5
    simp only [List.getElem?_toArray, List.getElem?_cons_zero, List.getElem?_cons_succ] at q4 q5
    go_wp2_with (refine ldm_bo hb1 (by rfl) _ rfl rfl (Hid.out ?_))
    refine Lib.hid ?_
    go_wp2_with fail
    refine (HC1.out _ HF4.out HP4.out HL4.out).mono ?_
    rintro e w5 ⟨v1, rfl, hO1, b5⟩
    have hB5 := hB4.trans (b5.mono hB4.size)
    have bD5 := bD4.below b5 bD4.lt
    have HP5 := Lib.hid (HP4.out.below b5)
    have HF5 := Lib.hid (HF4.out.below b5)
    have HL5 := Lib.hid (HL4.out.below b5)
    clear hb1 q4 q5 bD4 b5 HP4 HF4 HL4
    have hb1 := desk_board bD5.range
    have q4 := bD5.cell 4
    have q5 := bD5.cell 5
    simp only [List.getElem?_toArray, List.getElem?_cons_zero, List.getElem?_cons_succ] at q4 q5
    go_wp2_with (refine ldm_bo hb1 (by rfl) _ rfl rfl (Hid.out ?_))
    refine Lib.hid ?_
    go_wp2_with fail
    refine (HC2.out _ HF5.out HP5.out HL5.out).mono ?_
    rintro e w6 ⟨v2, rfl, hO2, b6⟩
    have hB6 := hB5.trans (b6.mono hB5.size)
    have bD6 := bD5.below b6 bD5.lt
    have HP6 := Lib.hid (HP5.out.below b6)
    have HF6 := Lib.hid (HF5.out.below b6)
    have HL6 := Lib.hid (HL5.out.below b6)
    have HO1 := Lib.hid (own_keepE hO1 b6)
    have HO2 := Lib.hid hO2
    clear hO1 hO2
    clear hb1 q4 q5 bD5 b6 HP5 HF5 HL5
    go_wp2_with fail
    refine (same_in v1 v2 L L.length rfl (by omega) _ _ _ HO1.out HO2.out).mono ?_
    rintro e w7 ⟨rfl, b7⟩
    have hB7 := hB6.trans (b7.mono hB6.size)
    have bD7 := bD6.below b7 bD6.lt
    have HP7 := Lib.hid (HP6.out.below b7)
    have HF7 := Lib.hid (HF6.out.below b7)
    have HL7 := Lib.hid (HL6.out.below b7)
    clear bD6 b7 HP6 HF6 HL6 HO1 HO2
    have hb1 := desk_board bD7.range
    have q4 := bD7.cell 4
    have q5 := bD7.cell 5
    simp only [List.getElem?_toArray, List.getElem?_cons_zero, List.getElem?_cons_succ] at q4 q5
    go_wp2_with (refine ldm_bo hb1 (by rfl) _ rfl rfl (Hid.out ?_))
    refine Lib.hid ?_
    go_wp2_with fail
    refine (HW1.out _ HF7.out HP7.out HL7.out).mono ?_
    rintro e w8 ⟨rfl, b8⟩
    have hB8 := hB7.trans (b8.mono hB7.size)
    have bD8 := bD7.below b8 bD7.lt
    have HP8 := Lib.hid (HP7.out.below b8)
    have HF8 := Lib.hid (HF7.out.below b8)
    have HL8 := Lib.hid (HL7.out.below b8)
    clear hb1 q4 q5 bD7 b8 HP7 HF7 HL7
    have hb1 := desk_board bD8.range
    have q4 := bD8.cell 4
    have q5 := bD8.cell 5
    simp only [List.getElem?_toArray, List.getElem?_cons_zero, List.getElem?_cons_succ] at q4 q5
    go_wp2_with (refine ldm_bo hb1 (by rfl) _ rfl rfl (Hid.out ?_))
    refine Lib.hid ?_
    go_wp2_with fail
    refine (HW2.out _ HF8.out HP8.out HL8.out).mono ?_
    rintro e w9 ⟨rfl, b9⟩
    have hB9 := hB8.trans (b9.mono hB8.size)
    have bD9 := bD8.below b9 bD8.lt
    have HP9 := Lib.hid (HP8.out.below b9)
    have HF9 := Lib.hid (HF8.out.below b9)
    have HL9 := Lib.hid (HL8.out.below b9)
    clear hb1 q4 q5 bD8 b9 HP8 HF8 HL8
    go_wp2_with fail
    refine (awake_any _).mono ?_
    rintro e w10 ⟨rfl, b10⟩
    go_wp2
    go_ret
    exact ⟨rfl, hB9.trans (b10.mono hB9.size)⟩
end Go.Proofs.Ytlikmlhlfbdchaa
