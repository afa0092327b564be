/- Merged: R3 R4 R5 R6. -/
import Derived.Test.YtlikmlhlfbdchaaRX
/- nest: few; Extent of both sides. -/
namespace Go.Proofs.Ytlikmlhlfbdchaa
open Go.RowKit Go.Shelf
/-- a desk as a value -/
abbrev dkA (b : Ne.Bo) (fA : Option Addr) (f fC : Nat) (pA : Option Addr) (m pC : Nat) (lA : Option Addr) (n lC : Nat) : Array Value :=
  #[.int .i64 b.w, .int .i64 b.h, .int .i64 b.g, .slice fA f fC, .slice pA m pC, .slice lA n lC]

set_option maxRecDepth 100000 in
set_option maxHeartbeats 4000000 in
theorem few_b (b : Ne.Bo) (fA : Option Addr) (f fC : Nat) (pA : Option Addr) (m pC : Nat) (lA : Option Addr) (n lC : Nat) (ps : List Ne.Pa) (pl : List Ne.Pc) (hm : ps.length = m) (hn : pl.length = n) (hmM : m ≤ 9223372036854775807) (hnM : n ≤ 9223372036854775807)
    (w : World) (hP : Ne.PaM w pA ps) (hL : Rows Ne.pcL 4 w lA pl) :
    Calls Try.prog 18 #[.agg (dkA b fA f fC pA m pC lA n lC)] w fun e w' => (∃ r : Bool, e = .returned (.bool r) ∧ (r = true → (m ≤ 20 ∧ n ≤ 24) ∨ 200 < n)) ∧ Below w.heap.size w w' := by
  have hB := (Below.refl w.heap.size w).alloc (Nat.le_refl _) (.cells (dkA b fA f fC pA m pC lA n lC) 37)
  have bD := Blk.new w 37 (dkA b fA f fC pA m pC lA n lC)
  have q4 := bD.cell 4
  have q5 := bD.cell 5
  simp only [List.getElem?_toArray, List.getElem?_cons_zero, List.getElem?_cons_succ] at q4 q5
  have HM := Lib.hid hm
  have HN := Lib.hid hn
  have HP := Lib.hid hP
  have HL := Lib.hid hL
  clear hm hn hP hL
  by_cases h20 : m ≤ 20
  · have d1 : decide ((20 : Int) < (m : Int)) = false := by simp; omega
    by_cases h24 : n ≤ 24
    · have d2 : decide ((24 : Int) < (n : Int)) = false := by simp; omega
      clear hmM hnM
      go_enter Try.func18, Try.ntmps18
      go_wp2
      generalize w.alloc (.cells (dkA b fA f fC pA m pC lA n lC) 37) = w0 at *
      clear q4 q5
      go_loopw [3, 23] (fun s i wr => ∃ (k : Nat) (z : Int), k ≤ n ∧ i = .int .i64 k ∧ s = .int .i64 z ∧ Below w0.heap.size w0 wr) (fun _ i _ => n - (intOf i).toNat)
      case atStart => exact ⟨0, 0, Nat.zero_le _, rfl, rfl, Below.refl _ _⟩
      case round =>
        obtain ⟨k, z, hk, rfl, rfl, hb⟩ := hrel
        have bD1 := bD.below hb bD.lt
        by_cases hlt : k < n
        · obtain ⟨g, off, rfl, hg, hc⟩ := (HL.out.below (hB.trans (hb.mono hB.size))).at (z := Ne.zc) (by rw [HN.out]; omega)
          have hck := hc k (by rw [HN.out]; exact hlt)
          obtain ⟨p, hp⟩ : ∃ p, pl.getD k Ne.zc = p := ⟨_, rfl⟩
          rw [hp] at hck
          have s0 := bD1.alloc (.cells (Ne.pcL p).toArray 40)
          have bN := Blk.new wr 40 (Ne.pcL p).toArray
          have t4 := s0.cell 4
          have f0 := bN.cell 0
          simp only [List.getElem?_toArray, List.getElem?_cons_zero, List.getElem?_cons_succ] at t4 f0
          have hb2 := hb.alloc hb.size (.cells (Ne.pcL p).toArray 40)
          clear hc hp bN
          by_cases hp0 : 0 ≤ p.p
          · have e1 : decide (0 ≤ p.p) = true := by simp; omega
            by_cases hpm : p.p < (m : Int)
            · have e2 : decide (p.p < (m : Int)) = true := by simp; omega
              obtain ⟨i, hi⟩ : ∃ i : Nat, p.p = i := ⟨p.p.toNat, by omega⟩
              obtain ⟨gp, op, rfl, hgp, hcp⟩ := (HP.out.below ((hB.trans (hb2.mono hB.size)))).open (by rw [HM.out]; omega)
              obtain ⟨A1, c1, d5, _, _, _⟩ := hcp i (by rw [HM.out]; omega)
              obtain ⟨pp, px, py, pt⟩ := p
              dsimp only at hi hp0 hpm e1 e2
              subst hi
              have hlm : (i : Int) < (m : Int) := by omega
              clear hcp
              go_wp2_with (refine ldm_pc hck rfl _ rfl rfl ?_)
              go_roundw
              case rel => exact ⟨k + 1, _, by omega, by go_num, rfl, hb2⟩
              case measure => simp [intOf]; omega
            · have e2 : decide (p.p < (m : Int)) = false := by simp; omega
              go_wp2_with (refine ldm_pc hck rfl _ rfl rfl ?_)
              go_roundw
              case rel => exact ⟨k + 1, z, by omega, by go_num, rfl, hb2⟩
              case measure => simp [intOf]; omega
          · have e1 : decide (0 ≤ p.p) = false := by simp; omega
            go_wp2_with (refine ldm_pc hck rfl _ rfl rfl ?_)
            go_roundw
            case rel => exact ⟨k + 1, z, by omega, by go_num, rfl, hb2⟩
            case measure => simp [intOf]; omega
        · obtain rfl : k = n := by omega
          go_wp2
          go_ret
          exact ⟨⟨_, rfl, fun _ => .inl ⟨h20, h24⟩⟩, hB.trans (hb.mono hB.size)⟩
    · have d2 : decide ((24 : Int) < (n : Int)) = true := by simp; omega
      go_enter Try.func18, Try.ntmps18
      go_wp2
      go_ret
      exact ⟨⟨_, rfl, fun h => .inr (by simp at h; omega)⟩, hB⟩
  · have d1 : decide ((20 : Int) < (m : Int)) = true := by simp; omega
    go_enter Try.func18, Try.ntmps18
    go_wp2
    go_ret
    exact ⟨⟨_, rfl, fun h => .inr (by simp at h; omega)⟩, hB⟩
namespace Ne
/-- the corners of the first k places -/
noncomputable def exK (ps : List Pa) (pl : List Pc) : Nat → List Geo.XY
  | 0 => []
  | k + 1 => exK ps pl k ++ lyg ps (pl.getD k zc)
def lsK (ps : List Pa) (pl : List Pc) : Nat → Bool
  | 0 => true
  | k + 1 => lsK ps pl k && lsB ps (pl.getD k zc)
noncomputable def exE (ps : List Pa) (pl : List Pc) : Int := if vPa ps = true then (if pl.length ≤ 200 then (if lsK ps pl pl.length = true then 0 else 2) else 2) else 70
noncomputable def exV (ps : List Pa) (pl : List Pc) : Rc := if exE ps pl = 0 then ard (exK ps pl pl.length) else zr
theorem lsK_mono {ps : List Pa} {pl : List Pc} {j k : Nat} (h : j ≤ k) (hk : lsK ps pl k = true) : lsK ps pl j = true := by
  induction k with
  | zero => obtain rfl : j = 0 := by omega
            rfl
  | succ k ih =>
    by_cases e : j = k + 1
    · subst e; exact hk
    · unfold lsK at hk; simp only [Bool.and_eq_true] at hk; exact ih (by omega) hk.1
theorem lyg_bd {ps : List Pa} {p : Pc} (hv : vPa ps = true) (hl : lsB ps p = true) : AllBd (lyg ps p) ∧ 3 ≤ (lyg ps p).length ∧ (lyg ps p).length ≤ 64 := by
  obtain ⟨x, y, i, e, hi⟩ := lsB_ok hl
  have hval := valid_of (vPa_at hv (q := i) hi)
  have hl : (lyg ps p).length = (ps.getD i za).o.length := by rw [lyg_len, e]; rfl
  refine ⟨fun k hk => ?_, by rw [hl]; exact hval.1, by rw [hl]; exact hval.2.1⟩
  have hF := frm_valid hval p.t
  have e1 : lyg ps p = (frm (ps.getD i za).o p.t).map (addXY (p.x, p.y)) := by unfold lyg; rw [e]; rfl
  rw [e1] at hk ⊢
  rw [List.length_map] at hk
  rw [Geo.X_map _ hk]
  have := hF.2.2.1 k hk
  unfold Geo.In at this
  unfold Bd addXY
  simp only
  omega
theorem exK_bd {ps : List Pa} {pl : List Pc} (hv : vPa ps = true) : ∀ {k : Nat}, lsK ps pl k = true → AllBd (exK ps pl k) ∧ (exK ps pl k).length ≤ 64 * k ∧ ((exK ps pl k).length = 0 ∨ 3 ≤ (exK ps pl k).length)
  | 0, _ => ⟨fun k hk => absurd hk (by simp [exK]), by simp [exK], .inl (by simp [exK])⟩
  | k + 1, h => by
    unfold lsK at h
    simp only [Bool.and_eq_true] at h
    obtain ⟨a, b, c⟩ := exK_bd hv h.1
    obtain ⟨x, y, z⟩ := lyg_bd hv h.2
    unfold exK
    rw [List.length_append]
    refine ⟨fun i hi => ?_, by omega, .inr (by omega)⟩
    rw [List.length_append] at hi
    unfold Geo.X
    by_cases hi2 : i < (exK ps pl k).length
    · rw [List.getElem?_append_left hi2]; exact a i hi2
    · rw [List.getElem?_append_right (by omega)]; exact x _ (by omega)
end Ne
end Go.Proofs.Ytlikmlhlfbdchaa
/- nest: Extent of the program. -/
namespace Go.Proofs.Ytlikmlhlfbdchaa
open Go.RowKit Go.Shelf
/-- nothing has turned but block g, and no block is new -/
structure Only (g : Nat) (w w' : World) : Prop where
  os : w'.os = w.os
  tape : w'.tape = w.tape
  output : w'.output = w.output
  size : w'.heap.size = w.heap.size
  block : ∀ k, k ≠ g → w'.heap[k]? = w.heap[k]?
theorem Only.refl (g : Nat) (w : World) : Only g w w := ⟨rfl, rfl, rfl, rfl, fun _ _ => rfl⟩
theorem Only.trans {g : Nat} {w w' w'' : World} (h : Only g w w') (k : Only g w' w'') : Only g w w'' := ⟨k.os.trans h.os, k.tape.trans h.tape, k.output.trans h.output, k.size.trans h.size, fun j hj => (k.block j hj).trans (h.block j hj)⟩
theorem Only.setRow (g : Nat) (w : World) (cs : Array Value) : Only g w (w.setRow g cs) := ⟨rfl, rfl, rfl, by simp [World.setRow], fun k hk => setRow_other w g k cs hk⟩
theorem Only.setCell (g : Nat) (w : World) (i : Nat) (u : Value) : Only g w (w.setCell ⟨g, i, none⟩ u) := ⟨rfl, rfl, rfl, by simp [World.setCell], fun k hk => Below.heap_setCell w ⟨g, i, none⟩ u k hk⟩
theorem Only.below {g B : Nat} {w w' : World} (h : Only g w w') (hB : B ≤ g) : Below B w w' := ⟨h.os, h.tape, h.output, by rw [h.size]; exact Nat.le_refl _, fun k hk => h.block k (by omega)⟩

theorem results_cell_tmp {P : Program} {fn : Func} {p q : Tmp} {ty : TypeId} (h : fn.results = #[.cell p ty, .tmp q]) (tmps : Array Value) (w : World) (g : Nat) (t : TypeId) (cs : Array Value) (fr : Nat × Nat) (d : TypeDesc)
    (hp : tmps.getD p undef = .pointer (some ⟨g, 0, none⟩)) (hg : w.heap[g]? = some (.cells cs t fr))
    (hu : P.underlying ty = some d) (hd : (match d with | .struct _ | .array _ _ => true | _ => false) = true) (hi : (P.info? ty).map (·.size) = some cs.size) :
    (results fn tmps).run P w = .ok (.tuple #[.agg cs, tmps.getD q undef]) w := by
  have hp' : tmps[p]?.getD undef = .pointer (some ⟨g, 0, none⟩) := by simpa using hp
  simp [results, h, hp', asAddr, run_loadVar_row w g t ty cs fr d hg hu hd hi]
theorem own_cells {W : World} {B : Nat} {t : TypeId} {k n c g : Nat} {xs : List Value} (h : W.ownsRow B t k (.slice (some ⟨g, 0, none⟩) n c) n xs) (hl : xs.length = n * k) : ∀ j u, xs[j]? = some u → W.cell? ((⟨g, 0, none⟩ : Addr).add j) = some u := by
  intro j u hj
  have hlt : j < n * k := by
    rcases Nat.lt_or_ge j xs.length with e | e
    · omega
    · rw [List.getElem?_eq_none e] at hj; cases hj
  have := h.cellAt j hlt
  rw [hj] at this
  rw [show (⟨g, 0, none⟩ : Addr).add j = ⟨g, j, none⟩ from by cases j <;> simp [Addr.add]]
  exact this
theorem own_some {W : World} {B : Nat} {t : TypeId} {k n : Nat} {v : Value} {xs : List Value} (h : W.ownsRow B t k v n xs) (h0 : 0 < n) : ∃ g c, v = .slice (some ⟨g, 0, none⟩) n c := by
  rcases h with ⟨_, ⟨e, h1⟩ | ⟨g, cap, cur, e, _⟩⟩
  · omega
  · exact ⟨g, cap, e⟩

theorem blk_setRow' {w : World} {g : Nat} {t : TypeId} {old cs : Array Value} (h : Blk w g t old) : Blk (w.setRow g cs) g t cs := by
  unfold Blk at h ⊢
  simp [World.setRow, Array.getElem?_modify, h]
theorem rc_all (k : Ne.Rc) : (Ne.rcL k).toArray.all (·.oneCell') = true := by simp [Value.oneCell']
section
variable {ops : Array Oper} {rest : List Oper} {o : Oper} {a : Act} {w : World} {Q : Exit → Act → World → Prop}
/-- a whole rectangle is stored -/
theorem st_rc {old : Array Value} {k : Ne.Rc} {g : Nat} {t : TypeId} (b : Blk w g t old) (hs : old.size = 4) (hgd : o.guard = none) (x y : Operand) (ho : o.op = .store 44 x y)
    (hx : a.eval x = .pointer (some ⟨g, 0, none⟩)) (hy : a.eval y = .agg (Ne.rcL k).toArray)
    (h : ∀ w', Blk w' g t (Ne.rcL k).toArray → Only g w w' → wpList Try.prog ops Q rest (a.put o.dst undef) w') : wpList Try.prog ops Q (o :: rest) a w :=
  wpList_store_row hgd 44 x y ho g (Ne.rcL k).toArray hx hy t old b infoRc hs (rc_all k) (h _ (blk_setRow' b) (Only.setRow g w (Ne.rcL k).toArray))
end
set_option maxRecDepth 100000 in
set_option maxHeartbeats 8000000 in
theorem Extent_b (A B : Option Addr) (ps : List Ne.Pa) (pl : List Ne.Pc) (c' m c n : Nat) (hm : ps.length = m) (hn : pl.length = n) (E : Int) (hE : Ne.exE ps pl = E) (R : Ne.Rc) (hR : Ne.exV ps pl = R) (w : World) (hP : Ne.PaM w B ps) (hL : Rows Ne.pcL 4 w A pl) :
    Calls Try.prog 22 #[.slice B m c', .slice A n c] w fun e w' => e = .returned (.tuple #[.agg (Ne.rcL R).toArray, .int .i64 E]) ∧ Below w.heap.size w w' := by
  have hB := (Below.refl w.heap.size w).alloc (Nat.le_refl _) (.cells (Ne.rcL Ne.zr).toArray 44)
  have bR := Blk.new w 44 (Ne.rcL Ne.zr).toArray
  obtain ⟨x, hx⟩ : ∃ x, Ne.vPa ps = x := ⟨_, rfl⟩
  have HV := Lib.hid (fun W h => vparts_b B ps c' m hm x hx W h)
  have HEE : Hid (E = if x = true then (if n ≤ 200 then (if Ne.lsK ps pl n = true then 0 else 2) else 2) else 70) := Lib.hid (by rw [← hE, ← hx, ← hn]; rfl)
  have HRR : Hid (R = if E = 0 then Ne.ard (Ne.exK ps pl n) else Ne.zr) := Lib.hid (by rw [← hR, ← hE, ← hn]; rfl)
  have HP := Lib.hid (hP.below hB)
  have HL := Lib.hid (hL.below hB)
  have HN := Lib.hid hn
  clear hE hR hP hL hn
  have hw0' : ∃ w0, w.alloc (.cells (Ne.rcL Ne.zr).toArray 44) = w0 := ⟨_, rfl⟩
  obtain ⟨w0, hw0⟩ := hw0'
  rw [hw0] at hB bR HP HL
  have hw1 : w.alloc (.cells #[.int .i64 0, .int .i64 0, .int .i64 0, .int .i64 0] 44) = w0 := hw0
  clear hw0
  cases x
  · have h1 := HEE.out
    rw [if_neg (by simp)] at h1
    subst h1
    have h2 := HRR.out
    rw [if_neg (by decide)] at h2
    subst h2
    clear hx
    go_enter Try.func22, Try.ntmps22
    go_wp2_with fail
    clear hw1
    refine (HV.out _ HP.out).mono ?_
    rintro e w1 ⟨rfl, b1⟩
    have bR1 := bR.below b1 bR.lt
    have hB1 := hB.trans (b1.mono hB.size)
    go_wp2_with (refine st_rc (k := Ne.zr) bR1 rfl rfl _ _ rfl rfl rfl ?_; intro w9 bR9 hO9)
    exact bodyPost_ret (results_cell_tmp Try.results22 _ _ w.heap.size 44 (Ne.rcL Ne.zr).toArray (0, 0) _ rfl bR9 Try.underlying44 rfl infoRc) rfl ⟨rfl, hB1.trans (hO9.below (Nat.le_refl _))⟩
  have h60 := Ne.vPa_len hx
  rw [hm] at h60
  have HVP := Lib.hid hx
  by_cases h200 : n ≤ 200
  · have d1 : decide ((200 : Int) < (n : Int)) = false := by simp; omega
    have HPL := Lib.hid (fun p y (hy : Ne.lsB ps p = y) W => vplace_b B ps c' m hm h60 p y hy W)
    have HLY : Hid (∀ (p : Ne.Pc) (hp : Ne.lsB ps p = true) W (h : Ne.PaM W B ps), Calls Try.prog 58 #[.slice B m c', .agg (Ne.pcL p).toArray] W fun e w' => ∃ v, e = .returned v ∧ w'.ownsRow W.heap.size 76 2 v (ps.getD p.p.toNat Ne.za).o.length (flat (Ne.lyg ps p)) ∧ Below W.heap.size W w') := Lib.hid (fun p hp W h => by
      obtain ⟨x1, y1, i, ei, hi⟩ := Ne.lsB_ok hp
      rw [hm] at hi
      obtain ⟨pp, px, py, pt⟩ := p
      dsimp only at x1 y1 ei
      subst ei
      exact lying_b B ps c' m i hm hi px py pt x1 y1 (Ne.vPa_at HVP.out (by omega)) _ rfl _ rfl W h)
    have HNO : Hid (∀ k, k < n → Ne.lsK ps pl (k + 1) = false → E = 2 ∧ R = Ne.zr) := Lib.hid (fun k hk h => by
      have e : Ne.lsK ps pl n = false := by
        cases e : Ne.lsK ps pl n with
        | false => rfl
        | true => rw [Ne.lsK_mono (show k + 1 ≤ n by omega) e] at h; cases h
      have h1 := HEE.out
      rw [if_pos rfl, if_pos h200, e, if_neg (by simp)] at h1
      have h2 := HRR.out
      rw [h1, if_neg (by decide)] at h2
      exact ⟨h1, h2⟩)
    have HYS : Hid (Ne.lsK ps pl n = true → E = 0 ∧ R = Ne.ard (Ne.exK ps pl n)) := Lib.hid (fun e => by
      have h1 := HEE.out
      rw [if_pos rfl, if_pos h200, e, if_pos rfl] at h1
      have h2 := HRR.out
      rw [h1, if_pos rfl] at h2
      exact ⟨h1, h2⟩)
    obtain ⟨i0, hi0, hz0, hn0, hy0⟩ := info_parts info38'
    clear hx hm
    go_enter Try.func22, Try.ntmps22
    go_wp2_with fail
    clear hw1
    refine (HV.out _ HP.out).mono ?_
    rintro e w1 ⟨rfl, b1⟩
    have bR1 := bR.below b1 bR.lt
    have hB1 := hB.trans (b1.mono hB.size)
    have HP1 := Lib.hid (HP.out.below b1)
    have HL1 := Lib.hid (HL.out.below b1)
    clear bR HP HL b1 HV
    go_wp2
    go_loopw [6, 19] (fun v i wr => ∃ k : Nat, k ≤ n ∧ i = .int .i64 k ∧ Ne.lsK ps pl k = true ∧ wr.ownsRow w1.heap.size 76 2 v (Ne.exK ps pl k).length (flat (Ne.exK ps pl k)) ∧ Below w1.heap.size w1 wr) (fun _ i _ => n - (intOf i).toNat)
    case atStart => exact ⟨0, Nat.zero_le _, rfl, rfl, World.ownsRow_nil _ _ _ _, Below.refl _ _⟩
    case round =>
      obtain ⟨k, hk, rfl, hls, hO, hb⟩ := hrel
      have HLS := Lib.hid hls
      have HBD := Lib.hid (Ne.exK_bd HVP.out hls)
      clear hls
      by_cases hlt : k < n
      · obtain ⟨g, off, rfl, hg, hc⟩ := (HL1.out.below hb).at (z := Ne.zc) (by rw [HN.out]; omega)
        have hck := hc k (by rw [HN.out]; exact hlt)
        obtain ⟨p, hp⟩ : ∃ p, pl.getD k Ne.zc = p := ⟨_, rfl⟩
        obtain ⟨y, hy⟩ : ∃ y, Ne.lsB ps p = y := ⟨_, rfl⟩
        have HS : Hid (Ne.lsK ps pl (k + 1) = y) := Lib.hid (by rw [Ne.lsK, HLS.out, hp, hy]; rfl)
        have HX : Hid (Ne.exK ps pl (k + 1) = Ne.exK ps pl k ++ Ne.lyg ps p) := Lib.hid (by rw [← hp]; rfl)
        rw [hp] at hck
        have hb2 := hb.alloc hb.size (.cells (Ne.pcL p).toArray 40)
        have bN := Blk.new wr 40 (Ne.pcL p).toArray
        have hrN := bN.range
        have HPL2 := Lib.hid (HPL.out p y hy)
        have hO1 := hO.alloc (.cells (Ne.pcL p).toArray 40)
        have HYY := Lib.hid hy
        clear hc hp hy hO hb
        go_wp2_with (first | refine ldm_pc hck rfl _ rfl rfl ?_ | refine ldm_pc hrN rfl _ rfl rfl ?_)
        refine (HPL2.out _).mono ?_
        rintro e w2 ⟨rfl, b2⟩
        have hb3 := hb2.trans (b2.mono hb2.size)
        have bN2 := bN.below b2 bN.lt
        have hrN2 := bN2.range
        have hO2 := own_keepE hO1 b2
        clear hrN hck hO1
        cases y
        · obtain ⟨rfl, rfl⟩ := HNO.out k hlt HS.out
          have bR3 := bR1.below hb3 bR1.lt
          go_wp2_with (refine st_rc (k := Ne.zr) bR3 rfl rfl _ _ rfl rfl rfl ?_; intro w9 bR9 hO9)
          exact bodyPost_ret (results_cell_tmp Try.results22 _ _ w.heap.size 44 (Ne.rcL Ne.zr).toArray (0, 0) _ rfl bR9 Try.underlying44 rfl infoRc) rfl ⟨rfl, (hB1.trans (hb3.mono hB1.size)).trans (hO9.below (Nat.le_refl _))⟩
        · obtain ⟨ybd, y3, y64⟩ := Ne.lyg_bd HVP.out HYY.out
          have hLYc := HLY.out p HYY.out w2 (HP1.out.below hb3)
          obtain ⟨L, hLL⟩ : ∃ L, Ne.lyg ps p = L := ⟨_, rfl⟩
          have hlen : (ps.getD p.p.toNat Ne.za).o.length = L.length := by rw [← hLL, Ne.lyg_len]
          rw [hLL] at hLYc HX y3 y64
          obtain ⟨q, hq⟩ : ∃ q, L.length = q := ⟨_, rfl⟩
          have HQ := Lib.hid hq
          rw [hq] at hlen y3 y64
          have HLYC : Hid (Calls Try.prog 58 #[.slice B m c', .agg (Ne.pcL p).toArray] w2 fun e w' => ∃ v, e = .returned v ∧ w'.ownsRow w2.heap.size 76 2 v q (flat L) ∧ Below w2.heap.size w2 w') := Lib.hid (by
            rw [hlen] at hLYc
            exact hLYc)
          have HF : Hid (flat (Ne.exK ps pl (k + 1)) = flat (Ne.exK ps pl k) ++ flat L ∧ (Ne.exK ps pl (k + 1)).length = (Ne.exK ps pl k).length + q) := Lib.hid (by rw [HX.out, flat_append, List.length_append, HQ.out]; exact ⟨rfl, rfl⟩)
          obtain ⟨ln, hln⟩ : ∃ ln, (Ne.exK ps pl k).length = ln := ⟨_, rfl⟩
          have hlb : ln ≤ 64 * k := by rw [← hln]; exact HBD.out.2.1
          rw [hln] at hO2 HF
          clear hLYc hlen hLL ybd hln hq
          go_wp2_with (refine ldm_pc hrN2 rfl _ rfl rfl ?_)
          refine HLYC.out.mono ?_
          rintro e w3 ⟨v, rfl, hOL, b3⟩
          obtain ⟨gL, cL, rfl⟩ := own_some hOL (by omega)
          have hcl := own_cells hOL (by rw [flat_length, HQ.out])
          have hfl : (flat L).length = q * 2 := by rw [flat_length, HQ.out]
          have hO3 := own_keepE hO2 b3
          have hb4 := hb3.trans (b3.mono hb3.size)
          have HO3 := Lib.hid hO3
          have HCL := Lib.hid hcl
          have HFL := Lib.hid hfl
          clear hO2 hO3 hOL hcl hfl b3 b2 hrN2 bN2 bN
          go_wp2_with (at_builtin; refine wpList_append_own _ rfl _ _ 22 rfl w1.heap.size 76 i0 _ 2 16 Try.underlying22 hi0 hz0 hn0 hy0 rfl (by decide) _ _ _ rfl HO3.out ⟨gL, 0, none⟩ q cL (flat L) rfl HFL.out HCL.out (oneCell_flat L) (by unfold maxLen; omega) (by omega) hb4.size ?_; intro v' w9 hown' hgrow _; have HO9 := Lib.hid hown'; have HG9 := Lib.hid hgrow; clear hown' hgrow)
          have hB9 := hb4.grown HG9.out hb4.size (fun s e => (HO3.out.lt s e).1)
          go_roundw
          case rel => exact ⟨k + 1, by omega, by go_num, HS.out, by rw [HF.out.1, HF.out.2]; exact HO9.out, hB9⟩
          case measure => simp [intOf]; omega
      · obtain rfl : k = n := by omega
        obtain ⟨rfl, hRE⟩ := HYS.out HLS.out
        obtain ⟨ln, hln⟩ : ∃ ln, (Ne.exK ps pl k).length = ln := ⟨_, rfl⟩
        obtain ⟨A9, c9, rfl, hpt, hcc⟩ := pts_of_owns' hO
        have HPT := Lib.hid hpt
        rw [hln] at hcc ⊢
        have hb60 := HBD.out
        rw [hln] at hb60
        have HRE := Lib.hid hRE
        have HLN := Lib.hid hln
        have bR3 := bR1.below hb bR1.lt
        clear hO hpt hRE hln
        go_wp2_with fail
        refine (around_b A9 (Ne.exK ps pl k) c9 ln HLN.out (by omega) (by omega) hcc hb60.1 R HRE.out.symm wr HPT.out).mono ?_
        rintro e w5 ⟨rfl, b5⟩
        have hb5 := hb.trans (b5.mono hb.size)
        have bR5 := bR3.below b5 bR3.lt
        go_wp2_with (refine st_rc (k := R) bR5 rfl rfl _ _ rfl rfl rfl ?_; intro w9 bR9 hO9)
        exact bodyPost_ret (results_cell_tmp Try.results22 _ _ w.heap.size 44 (Ne.rcL R).toArray (0, 0) _ rfl bR9 Try.underlying44 rfl infoRc) rfl ⟨rfl, (hB1.trans (hb5.mono hB1.size)).trans (hO9.below (Nat.le_refl _))⟩
  · have d1 : decide ((200 : Int) < (n : Int)) = true := by simp; omega
    have h1 := HEE.out
    rw [if_pos rfl, if_neg h200] at h1
    subst h1
    have h2 := HRR.out
    rw [if_neg (by decide)] at h2
    subst h2
    clear hx
    go_enter Try.func22, Try.ntmps22
    go_wp2_with fail
    clear hw1
    refine (HV.out _ HP.out).mono ?_
    rintro e w1 ⟨rfl, b1⟩
    have bR1 := bR.below b1 bR.lt
    have hB1 := hB.trans (b1.mono hB.size)
    go_wp2_with (refine st_rc (k := Ne.zr) bR1 rfl rfl _ _ rfl rfl rfl ?_; intro w9 bR9 hO9)
    exact bodyPost_ret (results_cell_tmp Try.results22 _ _ w.heap.size 44 (Ne.rcL Ne.zr).toArray (0, 0) _ rfl bR9 Try.underlying44 rfl infoRc) rfl ⟨rfl, hB1.trans (hO9.below (Nat.le_refl _))⟩
end Go.Proofs.Ytlikmlhlfbdchaa
/- nest: Extent of the document. -/
namespace Go.Proofs.Ytlikmlhlfbdchaa
open Go.RowKit Go.Shelf
namespace Ne
theorem low_lo {l : List Geo.XY} (h0 : 0 < l.length) : (lowP l l.length).1 = lo1 (1, 0) l ∧ (lowP l l.length).2 = lo1 (0, 1) l ∧ (highP l l.length).1 = hi1 (1, 0) l ∧ (highP l l.length).2 = hi1 (0, 1) l := by
  have key : ∀ (d : Geo.XY) (m : Int), Geo.IsMax l (fun p => dt d p) m → hi1 d l = m := fun d m h => by
    obtain ⟨k, hk, e⟩ := hi_is d h0
    obtain ⟨p, hp, e2⟩ := h.2
    obtain ⟨j, hj, rfl⟩ := Geo.mem_X hp
    have a := h.1 _ (Geo.X_mem hk)
    have b := hi_max d hj
    simp only at a e2
    omega
  have kel : ∀ (d : Geo.XY) (m : Int), Geo.IsMax l (fun p => -dt d p) (-m) → lo1 d l = m := fun d m h => by
    obtain ⟨k, hk, e⟩ := lo_is d h0
    obtain ⟨p, hp, e2⟩ := h.2
    obtain ⟨j, hj, rfl⟩ := Geo.mem_X hp
    have a := h.1 _ (Geo.X_mem hk)
    have b := lo_min d hj
    simp only at a e2
    omega
  refine ⟨(kel _ _ ?_).symm, (kel _ _ ?_).symm, (key _ _ ?_).symm, (key _ _ ?_).symm⟩
  · simp only [dt10]; exact low_max1 l h0
  · simp only [dt01]; exact low_max2 l h0
  · simp only [dt10]; exact high_max1 l h0
  · simp only [dt01]; exact high_max2 l h0
theorem ends_bd {l : List Geo.XY} (h : AllBd l) (h0 : 0 < l.length) : (-1000000 ≤ (lowP l l.length).1 ∧ (lowP l l.length).1 ≤ 1000000) ∧ (-1000000 ≤ (lowP l l.length).2 ∧ (lowP l l.length).2 ≤ 1000000) ∧ (-1000000 ≤ (highP l l.length).1 ∧ (highP l l.length).1 ≤ 1000000) ∧ (-1000000 ≤ (highP l l.length).2 ∧ (highP l l.length).2 ≤ 1000000) := by
  obtain ⟨e1, e2, e3, e4⟩ := low_lo h0
  rw [e1, e2, e3, e4]
  obtain ⟨k1, h1, f1⟩ := lo_is (1, 0) h0
  obtain ⟨k2, h2, f2⟩ := lo_is (0, 1) h0
  obtain ⟨k3, h3, f3⟩ := hi_is (1, 0) h0
  obtain ⟨k4, h4, f4⟩ := hi_is (0, 1) h0
  have a1 := h k1 h1
  have a2 := h k2 h2
  have a3 := h k3 h3
  have a4 := h k4 h4
  rw [dt10] at f1 f3
  rw [dt01] at f2 f4
  unfold Bd at a1 a2 a3 a4
  omega
end Ne

set_option maxRecDepth 100000 in
set_option maxHeartbeats 8000000 in
theorem rExtent_b (A B : Option Addr) (ps : List Ne.Pa) (pl : List Ne.Pc) (c' m c n : Nat) (hm : ps.length = m) (hmM : m ≤ maxLen) (hn : pl.length = n) (E : Int) (hE : Ne.exE ps pl = E) (R : Ne.Rc) (hR : Ne.exV ps pl = R) (w : World) (hP : Ne.PaM w B ps) (hL : Rows Ne.pcL 4 w A pl) :
    Calls Try.prog 23 #[.slice B m c', .slice A n c] w fun e w' => e = .returned (.tuple #[.agg (Ne.rcL R).toArray, .int .i64 E]) ∧ Below w.heap.size w w' := by
  have hB := (Below.refl w.heap.size w).alloc (Nat.le_refl _) (.cells (Ne.rcL Ne.zr).toArray 44)
  have bR := Blk.new w 44 (Ne.rcL Ne.zr).toArray
  obtain ⟨x, hx⟩ : ∃ x, Ne.vPa ps = x := ⟨_, rfl⟩
  have HV := Lib.hid (fun W h => rvparts_b B ps c' m hm hmM x hx W h)
  have HEE : Hid (E = if x = true then (if n ≤ 200 then (if Ne.lsK ps pl n = true then 0 else 2) else 2) else 70) := Lib.hid (by rw [← hE, ← hx, ← hn]; rfl)
  have HRR : Hid (R = if E = 0 then Ne.ard (Ne.exK ps pl n) else Ne.zr) := Lib.hid (by rw [← hR, ← hE, ← hn]; rfl)
  have HP := Lib.hid (hP.below hB)
  have HL := Lib.hid (hL.below hB)
  have HN := Lib.hid hn
  clear hE hR hP hL hn
  have hw0' : ∃ w0, w.alloc (.cells (Ne.rcL Ne.zr).toArray 44) = w0 := ⟨_, rfl⟩
  obtain ⟨w0, hw0⟩ := hw0'
  rw [hw0] at hB bR HP HL
  have hw1 : w.alloc (.cells #[.int .i64 0, .int .i64 0, .int .i64 0, .int .i64 0] 44) = w0 := hw0
  clear hw0
  cases x
  · have h1 := HEE.out
    rw [if_neg (by simp)] at h1
    subst h1
    have h2 := HRR.out
    rw [if_neg (by decide)] at h2
    subst h2
    clear hx
    go_enter Try.func23, Try.ntmps23
    go_wp2_with fail
    clear hw1
    refine (HV.out _ HP.out).mono ?_
    rintro e w1 ⟨rfl, b1⟩
    have bR1 := bR.below b1 bR.lt
    have hB1 := hB.trans (b1.mono hB.size)
    go_wp2_with (refine st_rc (k := Ne.zr) bR1 rfl rfl _ _ rfl rfl rfl ?_; intro w9 bR9 hO9)
    exact bodyPost_ret (results_cell_tmp Try.results23 _ _ w.heap.size 44 (Ne.rcL Ne.zr).toArray (0, 0) _ rfl bR9 Try.underlying44 rfl infoRc) rfl ⟨rfl, hB1.trans (hO9.below (Nat.le_refl _))⟩
  have h60 := Ne.vPa_len hx
  rw [hm] at h60
  have HVP := Lib.hid hx
  by_cases h200 : n ≤ 200
  · have d1 : decide ((200 : Int) < (n : Int)) = false := by simp; omega
    have HPL := Lib.hid (fun p y (hy : Ne.lsB ps p = y) W => rlies_b B ps c' m hm h60 p y hy W)
    have HLY : Hid (∀ (p : Ne.Pc) (hp : Ne.lsB ps p = true) W (h : Ne.PaM W B ps), Calls Try.prog 61 #[.slice B m c', .agg (Ne.pcL p).toArray] W fun e w' => ∃ v, e = .returned v ∧ w'.ownsRow W.heap.size 76 2 v (ps.getD p.p.toNat Ne.za).o.length (flat (Ne.lyg ps p)) ∧ Below W.heap.size W w') := Lib.hid (fun p hp W h => by
      obtain ⟨x1, y1, i, ei, hi⟩ := Ne.lsB_ok hp
      rw [hm] at hi
      obtain ⟨pp, px, py, pt⟩ := p
      dsimp only at x1 y1 ei
      subst ei
      exact rlying_b B ps c' m i hm hi px py pt x1 y1 (Ne.vPa_at HVP.out (by omega)) _ rfl _ rfl W h)
    have HNO : Hid (∀ k, k < n → Ne.lsK ps pl (k + 1) = false → E = 2 ∧ R = Ne.zr) := Lib.hid (fun k hk h => by
      have e : Ne.lsK ps pl n = false := by
        cases e : Ne.lsK ps pl n with
        | false => rfl
        | true => rw [Ne.lsK_mono (show k + 1 ≤ n by omega) e] at h; cases h
      have h1 := HEE.out
      rw [if_pos rfl, if_pos h200, e, if_neg (by simp)] at h1
      have h2 := HRR.out
      rw [h1, if_neg (by decide)] at h2
      exact ⟨h1, h2⟩)
    have HYS : Hid (Ne.lsK ps pl n = true → E = 0 ∧ R = Ne.ard (Ne.exK ps pl n)) := Lib.hid (fun e => by
      have h1 := HEE.out
      rw [if_pos rfl, if_pos h200, e, if_pos rfl] at h1
      have h2 := HRR.out
      rw [h1, if_pos rfl] at h2
      exact ⟨h1, h2⟩)
    obtain ⟨i0, hi0, hz0, hn0, hy0⟩ := info_parts info38'
    clear hx hm
    go_enter Try.func23, Try.ntmps23
    go_wp2_with fail
    clear hw1
    refine (HV.out _ HP.out).mono ?_
    rintro e w1 ⟨rfl, b1⟩
    have bR1 := bR.below b1 bR.lt
    have hB1 := hB.trans (b1.mono hB.size)
    have HP1 := Lib.hid (HP.out.below b1)
    have HL1 := Lib.hid (HL.out.below b1)
    clear bR HP HL b1 HV
    go_wp2
    go_loopw [6, 21] (fun v i wr => ∃ k : Nat, k ≤ n ∧ i = .int .i64 k ∧ Ne.lsK ps pl k = true ∧ wr.ownsRow w1.heap.size 76 2 v (Ne.exK ps pl k).length (flat (Ne.exK ps pl k)) ∧ Below w1.heap.size w1 wr) (fun _ i _ => n - (intOf i).toNat)
    case atStart => exact ⟨0, Nat.zero_le _, rfl, rfl, World.ownsRow_nil _ _ _ _, Below.refl _ _⟩
    case round =>
      obtain ⟨k, hk, rfl, hls, hO, hb⟩ := hrel
      have HLS := Lib.hid hls
      have HBD := Lib.hid (Ne.exK_bd HVP.out hls)
      clear hls
      by_cases hlt : k < n
      · obtain ⟨g, off, rfl, hg, hc⟩ := (HL1.out.below hb).at (z := Ne.zc) (by rw [HN.out]; omega)
        have hck := hc k (by rw [HN.out]; exact hlt)
        obtain ⟨p, hp⟩ : ∃ p, pl.getD k Ne.zc = p := ⟨_, rfl⟩
        obtain ⟨y, hy⟩ : ∃ y, Ne.lsB ps p = y := ⟨_, rfl⟩
        have HS : Hid (Ne.lsK ps pl (k + 1) = y) := Lib.hid (by rw [Ne.lsK, HLS.out, hp, hy]; rfl)
        have HX : Hid (Ne.exK ps pl (k + 1) = Ne.exK ps pl k ++ Ne.lyg ps p) := Lib.hid (by rw [← hp]; rfl)
        rw [hp] at hck
        have hb2 := hb.alloc hb.size (.cells (Ne.pcL p).toArray 40)
        have bN := Blk.new wr 40 (Ne.pcL p).toArray
        have hrN := bN.range
        have HPL2 := Lib.hid (HPL.out p y hy)
        have hO1 := hO.alloc (.cells (Ne.pcL p).toArray 40)
        have HYY := Lib.hid hy
        clear hc hp hy hO hb
        go_wp2_with (first | refine ldm_pc hck rfl _ rfl rfl ?_ | refine ldm_pc hrN rfl _ rfl rfl ?_)
        refine (HPL2.out _).mono ?_
        rintro e w2 ⟨rfl, b2⟩
        have hb3 := hb2.trans (b2.mono hb2.size)
        have bN2 := bN.below b2 bN.lt
        have hrN2 := bN2.range
        have hO2 := own_keepE hO1 b2
        clear hrN hck hO1
        cases y
        · obtain ⟨rfl, rfl⟩ := HNO.out k hlt HS.out
          have bR3 := bR1.below hb3 bR1.lt
          go_wp2_with (refine st_rc (k := Ne.zr) bR3 rfl rfl _ _ rfl rfl rfl ?_; intro w9 bR9 hO9)
          exact bodyPost_ret (results_cell_tmp Try.results23 _ _ w.heap.size 44 (Ne.rcL Ne.zr).toArray (0, 0) _ rfl bR9 Try.underlying44 rfl infoRc) rfl ⟨rfl, (hB1.trans (hb3.mono hB1.size)).trans (hO9.below (Nat.le_refl _))⟩
        · obtain ⟨ybd, y3, y64⟩ := Ne.lyg_bd HVP.out HYY.out
          have hLYc := HLY.out p HYY.out w2 (HP1.out.below hb3)
          obtain ⟨L, hLL⟩ : ∃ L, Ne.lyg ps p = L := ⟨_, rfl⟩
          have hlen : (ps.getD p.p.toNat Ne.za).o.length = L.length := by rw [← hLL, Ne.lyg_len]
          rw [hLL] at hLYc HX y3 y64
          obtain ⟨q, hq⟩ : ∃ q, L.length = q := ⟨_, rfl⟩
          have HQ := Lib.hid hq
          rw [hq] at hlen y3 y64
          have HLYC : Hid (Calls Try.prog 61 #[.slice B m c', .agg (Ne.pcL p).toArray] w2 fun e w' => ∃ v, e = .returned v ∧ w'.ownsRow w2.heap.size 76 2 v q (flat L) ∧ Below w2.heap.size w2 w') := Lib.hid (by
            rw [hlen] at hLYc
            exact hLYc)
          have HF : Hid (flat (Ne.exK ps pl (k + 1)) = flat (Ne.exK ps pl k) ++ flat L ∧ (Ne.exK ps pl (k + 1)).length = (Ne.exK ps pl k).length + q) := Lib.hid (by rw [HX.out, flat_append, List.length_append, HQ.out]; exact ⟨rfl, rfl⟩)
          obtain ⟨ln, hln⟩ : ∃ ln, (Ne.exK ps pl k).length = ln := ⟨_, rfl⟩
          have hlb : ln ≤ 64 * k := by rw [← hln]; exact HBD.out.2.1
          rw [hln] at hO2 HF
          clear hLYc hlen hLL ybd hln hq
          go_wp2_with (refine ldm_pc hrN2 rfl _ rfl rfl ?_)
          refine HLYC.out.mono ?_
          rintro e w3 ⟨v, rfl, hOL, b3⟩
          obtain ⟨gL, cL, rfl⟩ := own_some hOL (by omega)
          have hcl := own_cells hOL (by rw [flat_length, HQ.out])
          have hfl : (flat L).length = q * 2 := by rw [flat_length, HQ.out]
          have hO3 := own_keepE hO2 b3
          have hb4 := hb3.trans (b3.mono hb3.size)
          have HO3 := Lib.hid hO3
          have HCL := Lib.hid hcl
          have HFL := Lib.hid hfl
          clear hO2 hO3 hOL hcl hfl b3 b2 hrN2 bN2 bN
          go_wp2_with (at_builtin; refine wpList_append_own _ rfl _ _ 22 rfl w1.heap.size 76 i0 _ 2 16 Try.underlying22 hi0 hz0 hn0 hy0 rfl (by decide) _ _ _ rfl HO3.out ⟨gL, 0, none⟩ q cL (flat L) rfl HFL.out HCL.out (oneCell_flat L) (by unfold maxLen; omega) (by omega) hb4.size ?_; intro v' w9 hown' hgrow _; have HO9 := Lib.hid hown'; have HG9 := Lib.hid hgrow; clear hown' hgrow)
          have hB9 := hb4.grown HG9.out hb4.size (fun s e => (HO3.out.lt s e).1)
          go_roundw
          case rel => exact ⟨k + 1, by omega, by go_num, HS.out, by rw [HF.out.1, HF.out.2]; exact HO9.out, hB9⟩
          case measure => simp [intOf]; omega
      · obtain rfl : k = n := by omega
        obtain ⟨rfl, hRE⟩ := HYS.out HLS.out
        obtain ⟨ln, hln⟩ : ∃ ln, (Ne.exK ps pl k).length = ln := ⟨_, rfl⟩
        obtain ⟨A9, c9, rfl, hpt, hcc⟩ := pts_of_owns' hO
        have HPT := Lib.hid hpt
        rw [hln] at hcc ⊢
        have hb60 := HBD.out
        rw [hln] at hb60
        have HRE := Lib.hid hRE
        have HLN := Lib.hid hln
        have bR3 := bR1.below hb bR1.lt
        clear hO hpt hRE hln
        by_cases hz : ln = 0
        · have e1 : ((ln : Int) == 0) = true := by simp; omega
          have e2 : R = Ne.zr := by rw [HRE.out]; unfold Ne.ard; rw [if_pos (by rw [HLN.out]; exact hz)]
          subst e2
          go_wp2_with (refine st_rc (k := Ne.zr) bR3 rfl rfl _ _ rfl rfl rfl ?_; intro w9 bR9 hO9)
          exact bodyPost_ret (results_cell_tmp Try.results23 _ _ w.heap.size 44 (Ne.rcL Ne.zr).toArray (0, 0) _ rfl bR9 Try.underlying44 rfl infoRc) rfl ⟨rfl, (hB1.trans (hb.mono hB1.size)).trans (hO9.below (Nat.le_refl _))⟩
        · have e1 : ((ln : Int) == 0) = false := by simp; omega
          obtain ⟨bE, oE, hAE, hbE, hcE⟩ := pts_open HPT.out (by rw [HLN.out]; omega)
          subst hAE
          have HEN := Lib.hid (ends_w bE oE c9 (Ne.exK ps pl k) (by rw [HLN.out]; omega) (by rw [HLN.out]; omega) wr hbE hcE)
          rw [HLN.out] at HEN
          have hlo := Ne.low_lo (l := Ne.exK ps pl k) (by rw [HLN.out]; omega)
          have hbd0 := Ne.ends_bd hb60.1 (by rw [HLN.out]; omega)
          rw [HLN.out] at hlo hbd0
          obtain ⟨lo, hlo'⟩ : ∃ lo, lowP (Ne.exK ps pl k) ln = lo := ⟨_, rfl⟩
          obtain ⟨hi, hhi'⟩ : ∃ hi, highP (Ne.exK ps pl k) ln = hi := ⟨_, rfl⟩
          rw [hlo', hhi'] at HEN hlo hbd0
          have hR9 : R = ⟨lo.1, lo.2, hi.1 - lo.1, hi.2 - lo.2⟩ := by
            rw [HRE.out]; unfold Ne.ard; rw [if_neg (by rw [HLN.out]; exact hz), ← hlo.1, ← hlo.2.1, ← hlo.2.2.1, ← hlo.2.2.2]
          have HR9 := Lib.hid hR9
          clear hlo hR9 hlo' hhi' hcE
          obtain ⟨⟨b1, b2⟩, ⟨b3, b4⟩, ⟨b5, b6⟩, b7, b8⟩ := hbd0
          go_wp2_with fail
          refine HEN.out.mono ?_
          rintro e w5 ⟨rfl, k5⟩
          have hb5 := hb.trans (k5.mono hb.size)
          have bR5 := (bR3.below k5 bR3.lt)
          have bR6 := (bR5.alloc (.cells #[.int .i64 lo.1, .int .i64 lo.2] 76)).alloc (.cells #[.int .i64 hi.1, .int .i64 hi.2] 76)
          have hb6 := (hb5.alloc hb5.size (.cells #[.int .i64 lo.1, .int .i64 lo.2] 76)).alloc (by have := hb5.size; simp; omega) (.cells #[.int .i64 hi.1, .int .i64 hi.2] 76)
          go_wp2_with (refine st_rc (k := ⟨lo.1, lo.2, hi.1 - lo.1, hi.2 - lo.2⟩) bR6 rfl rfl _ _ rfl rfl rfl ?_; intro w9 bR9 hO9)
          rw [HR9.out]
          exact bodyPost_ret (results_cell_tmp Try.results23 _ _ w.heap.size 44 (Ne.rcL ⟨lo.1, lo.2, hi.1 - lo.1, hi.2 - lo.2⟩).toArray (0, 0) _ rfl bR9 Try.underlying44 rfl infoRc) rfl ⟨rfl, (hB1.trans (hb6.mono hB1.size)).trans (hO9.below (Nat.le_refl _))⟩
  · have d1 : decide ((200 : Int) < (n : Int)) = true := by simp; omega
    have h1 := HEE.out
    rw [if_pos rfl, if_neg h200] at h1
    subst h1
    have h2 := HRR.out
    rw [if_neg (by decide)] at h2
    subst h2
    clear hx
    go_enter Try.func23, Try.ntmps23
    go_wp2_with fail
    clear hw1
    refine (HV.out _ HP.out).mono ?_
    rintro e w1 ⟨rfl, b1⟩
    have bR1 := bR.below b1 bR.lt
    have hB1 := hB.trans (b1.mono hB.size)
    go_wp2_with (refine st_rc (k := Ne.zr) bR1 rfl rfl _ _ rfl rfl rfl ?_; intro w9 bR9 hO9)
    exact bodyPost_ret (results_cell_tmp Try.results23 _ _ w.heap.size 44 (Ne.rcL Ne.zr).toArray (0, 0) _ rfl bR9 Try.underlying44 rfl infoRc) rfl ⟨rfl, hB1.trans (hO9.below (Nat.le_refl _))⟩
end Go.Proofs.Ytlikmlhlfbdchaa
/- nest: the law of where parts lie. -/
namespace Go.Proofs.Ytlikmlhlfbdchaa
open Go.RowKit Go.Shelf
section
variable {ops : Array Oper} {rest : List Oper} {o : Oper} {a : Act} {w : World} {Q : Exit → Act → World → Prop} {b off : Nat}
theorem infoDk : (Try.prog.info? 37).map (·.size) = some 6 := by kernel_rfl
theorem ldm_dk {s : Ne.Bo} {fA pA lA : Option Addr} {f fC m pC n lC : Nat} (hr : w.rangeAt b off (dkA s fA f fC pA m pC lA n lC).toList) (hw : Region.wanted o (yielded ops a.tmps) = true) (x : Operand) (ho : o.op = .load 37 x)
    (hx : a.eval x = .pointer (some ⟨b, off, none⟩)) (h : wpList Try.prog ops Q rest (a.put o.dst (.agg (dkA s fA f fC pA m pC lA n lC))) w) : wpList Try.prog ops Q (o :: rest) a w :=
  wpList_wanted hw fun _ hK => wp_load_mid 37 x ho b off hx (dkA s fA f fC pA m pC lA n lC).toList _ hr Try.underlying37 rfl infoDk (hK _ _ h)
end
theorem run_eqRc (x : Ne.Rc) (w : World) : (Op.equalIn 10000 44 (.agg (Ne.rcL x).toArray) (.agg (Ne.rcL x).toArray)).run Try.prog w = .ok true w := by
  have u3 := Try.underlying3
  have a3 := Try.isAgg3
  have q3 := Try.sizeOf3
  rw [show (10000 : Nat) = 9999 + 1 from rfl]
  obtain ⟨a, b, c, d⟩ := x
  go_simp
theorem equal_self (A B : Option Addr) (l : List Geo.XY) (c c' n : Nat) (hn : l.length = n) (h : n ≤ 64) (w : World) (hA : Pts w A l) (hB : Pts w B l) :
    Calls Try.prog 21 #[.slice A n c, .slice B n c'] w fun e w' => e = .returned (.bool true) ∧ Below w.heap.size w w' := by
  have := requal_any A B l l c c' w hA hB (by omega)
  rw [hn] at this
  refine this.mono ?_
  rintro e w' ⟨h1, h2⟩
  exact ⟨by rw [h1]; unfold eqB; simp, h2⟩

set_option maxRecDepth 100000 in
set_option maxHeartbeats 8000000 in
theorem law_lies (b : Ne.Bo) (ps : List Ne.Pa) (pl : List Ne.Pc) (fA : Option Addr) (f fC : Nat) (pA : Option Addr) (m pC : Nat) (lA : Option Addr) (n lC : Nat) (hm : ps.length = m) (hn : pl.length = n) (hmM : m ≤ 9223372036854775807) (hnM : n ≤ 9223372036854775807)
    (w : World) (hP : Ne.PaM w pA ps) (hL : Rows Ne.pcL 4 w lA pl) :
    Calls Try.prog 4 #[.agg (dkA b fA f fC pA m pC lA n lC)] w fun e w' => e = .returned (.bool true) ∧ Below w.heap.size w w' := by
  have hB := (Below.refl w.heap.size w).alloc (Nat.le_refl _) (.cells (dkA b fA f fC pA m pC lA n lC) 37)
  have bD := Blk.new w 37 (dkA b fA f fC pA m pC lA n lC)
  have hrD := bD.range
  have HFW := Lib.hid (fun W h h' => few_b b fA f fC pA m pC lA n lC ps pl hm hn hmM hnM W h h')
  have HP := Lib.hid (hP.below hB)
  have HL := Lib.hid (hL.below hB)
  have HM := Lib.hid hm
  have HN := Lib.hid hn
  obtain ⟨E, hE⟩ : ∃ E, Ne.exE ps pl = E := ⟨_, rfl⟩
  obtain ⟨R, hR⟩ : ∃ R, Ne.exV ps pl = R := ⟨_, rfl⟩
  have HX1 := Lib.hid (fun W h h' => Extent_b lA pA ps pl pC m lC n hm hn E hE R hR W h h')
  have HX2 := Lib.hid (fun W h h' => rExtent_b lA pA ps pl pC m lC n hm hmM hn E hE R hR W h h')
  have HY1 := Lib.hid (fun (p : Ne.Pc) W (h : Ne.PaM W pA ps) => Lying_b pA ps pC m hm p _ rfl _ rfl W h)
  have HY2 := Lib.hid (fun (p : Ne.Pc) W (h : Ne.PaM W pA ps) => rLying_b pA ps pC m hm hmM p _ rfl _ rfl W h)
  have hee : (E == E) = true := by simp
  have hqr := run_eqRc R
  have HQR := Lib.hid hqr
  clear hP hL hm hn hE hR hqr hmM
  go_enter Try.func4, Try.ntmps4
  go_wp2_with (refine ldm_dk hrD rfl _ rfl rfl ?_)
  refine (HFW.out _ HP.out HL.out).mono ?_
  rintro e w1 ⟨⟨r, rfl, _⟩, b1⟩
  have hB1 := hB.trans (b1.mono hB.size)
  have bD1 := bD.below b1 bD.lt
  have HP1 := Lib.hid (HP.out.below b1)
  have HL1 := Lib.hid (HL.out.below b1)
  clear bD HP HL hrD hB b1 HFW
  cases r with
  | false =>
    go_wp2_with fail
    refine (awake_any _).mono ?_
    rintro e w2 ⟨rfl, b2⟩
    go_wp2
    go_ret
    exact ⟨rfl, hB1.trans (b2.mono hB1.size)⟩
  | true =>
    have q4 := bD1.cell 4
    have q5 := bD1.cell 5
    simp only [List.getElem?_toArray, List.getElem?_cons_zero, List.getElem?_cons_succ] at q4 q5
    go_wp2
    clear q4 q5
    go_loopw [20] (fun i wr => ∃ k : Nat, k ≤ n ∧ i = .int .i64 k ∧ Below w1.heap.size w1 wr) (fun i _ => n - (intOf i).toNat)
    case atStart => exact ⟨0, Nat.zero_le _, rfl, Below.refl _ _⟩
    case round =>
      obtain ⟨k, hk, rfl, hb⟩ := hrel
      by_cases hlt : k < n
      · obtain ⟨g, off, rfl, hg, hc⟩ := (HL1.out.below hb).at (z := Ne.zc) (by rw [HN.out]; omega)
        have hck := hc k (by rw [HN.out]; exact hlt)
        obtain ⟨p, hp⟩ : ∃ p, pl.getD k Ne.zc = p := ⟨_, rfl⟩
        rw [hp] at hck
        have hb2 := hb.alloc hb.size (.cells (Ne.pcL p).toArray 40)
        have bN := Blk.new wr 40 (Ne.pcL p).toArray
        have hrN := bN.range
        have bD2 := (bD1.below hb bD1.lt).alloc (.cells (Ne.pcL p).toArray 40)
        have q4 := bD2.cell 4
        simp only [List.getElem?_toArray, List.getElem?_cons_zero, List.getElem?_cons_succ] at q4
        have hk1 : k + 1 ≤ 9223372036854775807 := by omega
        have HK1 := Lib.hid hk1
        have HLy := Lib.hid (HY1.out p)
        have HRy := Lib.hid (HY2.out p)
        have h64 := Ne.lyV_len ps p
        obtain ⟨L, hLL⟩ : ∃ L, Ne.lyV ps p = L := ⟨_, rfl⟩
        obtain ⟨e0, he0⟩ : ∃ e0, Ne.lyE ps p = e0 := ⟨_, rfl⟩
        rw [hLL, he0] at HLy HRy
        rw [hLL] at h64
        have hee2 : (e0 == e0) = true := by simp
        clear hc hp hk1 hLL he0
        go_wp2_with (first | refine ldm_pc hck rfl _ rfl rfl ?_ | refine ldm_pc hrN rfl _ rfl rfl ?_)
        refine (HLy.out _ (HP1.out.below hb2)).mono ?_
        rintro e w2 ⟨v1, rfl, hO1, b2⟩
        obtain ⟨A1, c1, rfl, hp1, _⟩ := pts_of_owns' hO1
        have HPT1 := Lib.hid hp1
        have hb3 := hb2.trans (b2.mono hb2.size)
        have bN2 := bN.below b2 bN.lt
        have bD3 := bD2.below b2 bD2.lt
        have q4 := bD3.cell 4
        simp only [List.getElem?_toArray, List.getElem?_cons_zero, List.getElem?_cons_succ] at q4
        have hrN2 := bN2.range
        clear hO1 hp1 hck hrN bN bD2 b2
        go_wp2_with (refine ldm_pc hrN2 rfl _ rfl rfl ?_)
        refine (HRy.out _ (HP1.out.below hb3)).mono ?_
        rintro e w3 ⟨v2, rfl, hO2, b3⟩
        obtain ⟨A2, c2, rfl, hp2, _⟩ := pts_of_owns' hO2
        have HPT2 := Lib.hid hp2
        have HPT3 := Lib.hid (HPT1.out.below b3)
        have hb4 := hb3.trans (b3.mono hb3.size)
        obtain ⟨ln, hln⟩ : ∃ ln, L.length = ln := ⟨_, rfl⟩
        have HLN := Lib.hid hln
        rw [hln] at h64 ⊢
        clear hO2 hp2 hrN2 bN2 bD3 b3 hln q4
        go_wp2_with fail
        refine (equal_self A1 A2 L c1 c2 ln HLN.out h64 _ HPT3.out HPT2.out).mono ?_
        rintro e w4 ⟨rfl, b4⟩
        have hb5 := hb4.trans (b4.mono hb4.size)
        have hk1 : IntKind.i64.wrap ((k : Int) + 1) = (k : Int) + 1 := IntWalk.i64_in _ (by have := HK1.out; omega)
        go_wp2
        go_roundw
        case rel => exact ⟨k + 1, by omega, by go_num, hb5⟩
        case measure => simp [intOf]; omega
      · obtain rfl : k = n := by omega
        have bD2 := bD1.below hb bD1.lt
        have q4 := bD2.cell 4
        have q5 := bD2.cell 5
        simp only [List.getElem?_toArray, List.getElem?_cons_zero, List.getElem?_cons_succ] at q4 q5
        go_wp2_with fail
        refine (HX1.out _ (HP1.out.below hb) (HL1.out.below hb)).mono ?_
        rintro e w2 ⟨rfl, b2⟩
        have hb2 := hb.trans (b2.mono hb.size)
        have hb3 := hb2.alloc hb2.size (.cells (Ne.rcL R).toArray 44)
        have bD3 := (bD2.below b2 bD2.lt).alloc (.cells (Ne.rcL R).toArray 44)
        have bR1 := Blk.new w2 44 (Ne.rcL R).toArray
        have q4 := bD3.cell 4
        have q5 := bD3.cell 5
        simp only [List.getElem?_toArray, List.getElem?_cons_zero, List.getElem?_cons_succ] at q4 q5
        go_wp2_with fail
        refine (HX2.out _ (HP1.out.below hb3) (HL1.out.below hb3)).mono ?_
        rintro e w3 ⟨rfl, b3⟩
        have hb4 := hb3.trans (b3.mono hb3.size)
        have bR2 := (bR1.below b3 bR1.lt).alloc (.cells (Ne.rcL R).toArray 44)
        have bR3 := Blk.new w3 44 (Ne.rcL R).toArray
        have hb5 := hb4.alloc hb4.size (.cells (Ne.rcL R).toArray 44)
        have r1 := bR2.range
        have r2 := bR3.range
        have hqr := HQR.out
        clear q4 q5 bD2 bD3 bR1 bR2 bR3
        go_wp2_with (first | refine ldm_rc r1 rfl _ rfl rfl ?_ | refine ldm_rc r2 rfl _ rfl rfl ?_)
        refine (awake_any _).mono ?_
        rintro e w4 ⟨rfl, b4⟩
        go_wp2
        go_ret
        exact ⟨rfl, hB1.trans ((hb5.trans (b4.mono hb5.size)).mono hB1.size)⟩
end Go.Proofs.Ytlikmlhlfbdchaa
