/- Merged: N6 N7 N8 N9. -/
import Derived.Test.YtlikmlhlfbdchaaNX
import Derived.Test.YtlikmlhlfbdchaaBZ
import Derived.Laws.MakeOwn
/- nest: rows of a part, plain; rows, Rows of the program. -/
namespace Go.Proofs.Ytlikmlhlfbdchaa
open Go.RowKit Go.Shelf
namespace Ne
theorem sdir_map {l : List Geo.XY} {d : Geo.XY} {k : Nat} (hk : k < l.length) : sdir (l.map (addXY d)) k = sdir l k := by
  have h2 : (k + 1) % l.length < l.length := Nat.mod_lt _ (by omega)
  unfold sdir
  rw [List.length_map, Geo.X_map _ hk, Geo.X_map _ h2]
  unfold addXY
  ext <;> simp <;> omega
theorem dir_valid {F : List Geo.XY} (h : Valid F) (d : Geo.XY) : DirOk (F.map (addXY d)) := fun k hk => by
  rw [List.length_map] at hk
  rw [sdir_map hk]
  have h2 : (k + 1) % F.length < F.length := Nat.mod_lt _ (by omega)
  have a := h.2.2.1 k hk
  have b := h.2.2.1 _ h2
  unfold Geo.In at a b
  exact ⟨10000, 10000, by unfold sdir; simp only; omega, by unfold sdir; simp only; omega, by decide, by decide, by decide⟩
theorem dir_lyg {l : List Pa} {p : Pc} (h : validB (l.getD p.p.toNat za).o = true) : DirOk (lyg l p) := dir_valid (frm_valid (valid_of h) _) _
theorem lyg_len (l : List Pa) (p : Pc) : (lyg l p).length = (l.getD p.p.toNat za).o.length := by unfold lyg; rw [List.length_map, frm_len]
/-- corners of a part that is not turned -/
theorem lyg_X {l : List Pa} {p : Pc} (ht : p.t = false) {k : Nat} (hk : k < (lyg l p).length) : ∃ j, j < (l.getD p.p.toNat za).o.length ∧ Geo.X (lyg l p) k = ((Geo.X (l.getD p.p.toNat za).o j).1 + p.x, (Geo.X (l.getD p.p.toNat za).o j).2 + p.y) := by
  unfold lyg at hk ⊢
  rw [List.length_map] at hk
  rw [Geo.X_map _ hk]
  have hm : Geo.X (frm (l.getD p.p.toNat za).o p.t) k ∈ (l.getD p.p.toNat za).o := by
    have := Geo.X_mem hk
    unfold frm at this ⊢
    rw [ht, if_neg (by simp)] at this ⊢
    exact Geo.mem_canon.1 this
  obtain ⟨j, hj, e⟩ := Geo.mem_X hm
  exact ⟨j, hj, by rw [e]; rfl⟩
theorem bxs_le {W L g : Int} (h0 : 0 ≤ W) (h1 : 1 ≤ L) (h2 : 0 ≤ g) : 0 ≤ bxs W L g ∧ bxs W L g * (L + g) ≤ W + g ∧ bxs W L g ≤ W + g := by
  have e : bxs W L g = (W + g) / (L + g) := by unfold bxs; exact Int.tdiv_eq_ediv_of_nonneg (by omega)
  rw [e]
  have h3 : 0 ≤ (W + g) / (L + g) := Int.ediv_nonneg (by omega) (by omega)
  have h4 : (W + g) / (L + g) * (L + g) ≤ W + g := Int.ediv_mul_le _ (by omega)
  refine ⟨h3, h4, ?_⟩
  have : (W + g) / (L + g) * 1 ≤ (W + g) / (L + g) * (L + g) := Int.mul_le_mul_of_nonneg_left (by omega) h3
  omega
/-- a box of a row lies on the board -/
theorem box_in {W L g : Int} {n k : Nat} (h0 : 0 ≤ W) (h1 : 1 ≤ L) (h2 : 0 ≤ g) (hn : bxs W L g = n) (hk : k < n) : 0 ≤ (k : Int) * (L + g) ∧ (k : Int) * (L + g) + L ≤ W := by
  have h := (bxs_le h0 h1 h2).2.1
  rw [hn] at h
  have h3 : ((k : Int) + 1) * (L + g) ≤ (n : Int) * (L + g) := Int.mul_le_mul_of_nonneg_right (by omega) (by omega)
  rw [Int.add_mul, Int.one_mul] at h3
  exact ⟨Int.mul_nonneg (by omega) (by omega), by omega⟩
/-- place i of the rows -/
def gp (part : Int) (g : Gr) (ac i : Nat) : Pc := ⟨part, g.fx + ((i % ac : Nat) : Int) * g.sx, g.fy + ((i / ac : Nat) : Int) * g.sy, false⟩
/-- the rows behind i places -/
noncomputable def rwK (b : Bo) (l : List Pa) (part : Int) (g : Gr) (ac : Nat) : Nat → List Pc
  | 0 => []
  | i + 1 => if (rwK b l part g ac i).length = 200 then rwK b l part g ac i else if clB b (lyg l (gp part g ac i)) = true then rwK b l part g ac i ++ [gp part g ac i] else rwK b l part g ac i
theorem rwK_succ (b : Bo) (l : List Pa) (part : Int) (g : Gr) (ac i : Nat) : rwK b l part g ac (i + 1) = if (rwK b l part g ac i).length = 200 then rwK b l part g ac i else if clB b (lyg l (gp part g ac i)) = true then rwK b l part g ac i ++ [gp part g ac i] else rwK b l part g ac i := rfl
theorem rwK_len (b : Bo) (l : List Pa) (part : Int) (g : Gr) (ac i : Nat) : (rwK b l part g ac i).length ≤ 200 := by
  induction i with
  | zero => simp [rwK]
  | succ i ih => unfold rwK; split
                 · exact ih
                 · split
                   · rw [List.length_append]; simp; omega
                   · exact ih
theorem rwK_stop {b : Bo} {l : List Pa} {part : Int} {g : Gr} {ac i : Nat} (h : (rwK b l part g ac i).length = 200) {j : Nat} (hj : i ≤ j) : rwK b l part g ac j = rwK b l part g ac i := by
  induction j with
  | zero => obtain rfl : i = 0 := by omega
            rfl
  | succ j ih =>
    by_cases e : i = j + 1
    · subst e; rfl
    · have := ih (by omega)
      rw [rwK_succ, this, if_pos h]
theorem gp_ok {b : Bo} {l : List Pa} {q : Nat} {ac up i : Nat} (hw : 0 ≤ b.w ∧ b.w ≤ 60000) (hh : 0 ≤ b.h ∧ b.h ≤ 60000) (hg : 0 ≤ b.g) (hv : validB (l.getD q za).o = true)
    (ha : (grd b (l.getD q za)).ac = ac) (hu : (grd b (l.getD q za)).up = up) (hi : i < ac * up) :
    OnB b (lyg l (gp q (grd b (l.getD q za)) ac i)) ∧ (-5000 ≤ (gp q (grd b (l.getD q za)) ac i).x ∧ (gp q (grd b (l.getD q za)) ac i).x ≤ 65000) ∧ (-5000 ≤ (gp q (grd b (l.getD q za)) ac i).y ∧ (gp q (grd b (l.getD q za)) ac i).y ≤ 65000) := by
  have hval := valid_of hv
  obtain ⟨⟨x1, x2⟩, ⟨y1, y2⟩, ⟨w1, w2⟩, h1, h2⟩ := ard_bd hval
  have hac : 0 < ac := by
    rcases Nat.eq_zero_or_pos ac with h | h
    · rw [h] at hi; simp at hi
    · exact h
  have k1 : i % ac < ac := Nat.mod_lt _ hac
  have k2 : i / ac < up := Nat.div_lt_of_lt_mul hi
  have e1 := box_in hw.1 w1 hg ha k1
  have e2 := box_in hh.1 h1 hg hu k2
  have hx : (gp q (grd b (l.getD q za)) ac i).x = -(ard (l.getD q za).o).x + ((i % ac : Nat) : Int) * ((ard (l.getD q za).o).w + b.g) := rfl
  have hy : (gp q (grd b (l.getD q za)) ac i).y = -(ard (l.getD q za).o).y + ((i / ac : Nat) : Int) * ((ard (l.getD q za).o).h + b.g) := rfl
  refine ⟨fun k hk => ?_, by rw [hx]; omega, by rw [hy]; omega⟩
  obtain ⟨j, hj, e⟩ := lyg_X rfl hk
  have hq : (gp q (grd b (l.getD q za)) ac i).p.toNat = q := by show ((q : Nat) : Int).toNat = q; simp
  rw [hq] at hj e
  rw [e]
  have h3 := hval.1
  have a1 := lo_min (1, 0) hj
  have a2 := hi_max (1, 0) hj
  have a3 := lo_min (0, 1) hj
  have a4 := hi_max (0, 1) hj
  rw [dt10] at a1 a2
  rw [dt01] at a3 a4
  simp only
  rw [hx, hy]
  unfold ard at *
  rw [if_neg (by omega)] at *
  simp only at *
  omega
end Ne
theorem own_slice {W : World} {B : Nat} {t : TypeId} {k n : Nat} {v : Value} {xs : List Value} (h : W.ownsRow B t k v n xs) : ∃ A c, v = .slice A n c := by
  rcases h with ⟨_, ⟨e, h0⟩ | ⟨g, cap, cur, e, _⟩⟩
  · exact ⟨none, 0, by rw [h0]; exact e⟩
  · exact ⟨_, _, e⟩
theorem infoPc3 : (Try.prog.info? 40).map (fun i => (i.zero, i.size, i.bytes)) = some (some (.agg #[.int .i64 0, .int .i64 0, .int .i64 0, .bool false]), 4, 32) := by kernel_rfl

set_option maxRecDepth 100000 in
set_option maxHeartbeats 8000000 in
theorem rows_b (b : Ne.Bo) (A B : Option Addr) (l : List Ne.Pa) (n c m c' q ac up : Nat) (hn : b.fs.length = n) (hm : l.length = m) (hq : q < m) (hv : Ne.vBo b = true) (hvp : validB (l.getD q Ne.za).o = true)
    (ha : (Ne.grd b (l.getD q Ne.za)).ac = ac) (hu : (Ne.grd b (l.getD q Ne.za)).up = up) (hT : ac * up ≤ 10000) (R : List Ne.Pc) (hR : Ne.rwK b l q (Ne.grd b (l.getD q Ne.za)) ac (ac * up) = R)
    (w : World) (hF : Rows Ne.rcL 4 w A b.fs) (hP : Ne.PaM w B l) :
    Calls Try.prog 73 #[.agg (boW b A n c), .slice B m c', .int .i64 q, .agg (Ne.grL (Ne.grd b (l.getD q Ne.za))).toArray] w fun e w' => ∃ v, e = .returned v ∧ w'.ownsRow w.heap.size 40 4 v R.length (flt Ne.pcL R) ∧ Below w.heap.size w w' := by
  obtain ⟨G, hG⟩ : ∃ G, Ne.grd b (l.getD q Ne.za) = G := ⟨_, rfl⟩
  obtain ⟨T, hTT⟩ : ∃ T, ac * up = T := ⟨_, rfl⟩
  have HVB := Lib.hid (Ne.vBo_in hv)
  have HGP := Lib.hid (fun i (hi : i < T) => Ne.gp_ok (i := i) ⟨by have := HVB.out.1.1; omega, HVB.out.1.2⟩ ⟨by have := HVB.out.2.1.1; omega, HVB.out.2.1.2⟩ HVB.out.2.2.1.1 hvp ha hu (by rw [hTT]; exact hi))
  have hGd : G.fx = -(Ne.ard (l.getD q Ne.za).o).x ∧ G.fy = -(Ne.ard (l.getD q Ne.za).o).y ∧ G.sx = (Ne.ard (l.getD q Ne.za).o).w + b.g ∧ G.sy = (Ne.ard (l.getD q Ne.za).o).h + b.g := by rw [← hG]; exact ⟨rfl, rfl, rfl, rfl⟩
  have hard := Ne.ard_bd (valid_of hvp)
  rw [hG] at HGP ha hu hR ⊢
  rw [hTT] at hR hT
  obtain ⟨N, hN⟩ : ∃ N, (l.getD q Ne.za).o.length = N := ⟨_, rfl⟩
  have h3 := (valid_of hvp).1
  have h64 := (valid_of hvp).2.1
  rw [hN] at h3 h64
  have HLY := Lib.hid (fun i (hi : i < T) W (hW : Ne.PaM W B l) => lying_b B l c' m q hm hq (Ne.gp q G ac i).x (Ne.gp q G ac i).y false (by have := (HGP.out i hi).2.1; omega) (by have := (HGP.out i hi).2.2; omega) hvp N hN (Ne.lyg l (Ne.gp q G ac i)) rfl W hW)
  have HIB := Lib.hid (fun i (hi : i < T) x (hx : Ne.clB b (Ne.lyg l (Ne.gp q G ac i)) = x) C d (hd : N ≤ d) W (h1 : Rows Ne.rcL 4 W A b.fs) (h2 : Pts W C (Ne.lyg l (Ne.gp q G ac i))) =>
    isbeside_b b A C (Ne.lyg l (Ne.gp q G ac i)) n c N d hn (by rw [Ne.lyg_len]; show (l.getD ((q : Nat) : Int).toNat Ne.za).o.length = N; simpa using hN) h3 h64 hd hv (HGP.out i hi).1 (Ne.dir_lyg (by show validB (l.getD ((q : Nat) : Int).toNat Ne.za).o = true; simpa using hvp)) x hx W h1 h2)
  have HGL := Lib.hid (fun i => show (Ne.lyg l (Ne.gp q G ac i)).length = N by rw [Ne.lyg_len]; show (l.getD ((q : Nat) : Int).toNat Ne.za).o.length = N; simpa using hN)
  have hac : ac ≤ 62000 := by
    have h := (Ne.bxs_le (W := b.w) (L := (Ne.ard (l.getD q Ne.za).o).w) (g := b.g) (by have := HVB.out.1.1; omega) hard.2.2.1.1 HVB.out.2.2.1.1).2.2
    have e : Ne.bxs b.w (Ne.ard (l.getD q Ne.za).o).w b.g = (ac : Int) := by rw [← ha, ← hG]; rfl
    have := HVB.out.1.2; have := HVB.out.2.2.1.2
    omega
  have hup : up ≤ 62000 := by
    have h := (Ne.bxs_le (W := b.h) (L := (Ne.ard (l.getD q Ne.za).o).h) (g := b.g) (by have := HVB.out.2.1.1; omega) hard.2.2.2.1 HVB.out.2.2.1.1).2.2
    have e : Ne.bxs b.h (Ne.ard (l.getD q Ne.za).o).h b.g = (up : Int) := by rw [← hu, ← hG]; rfl
    have := HVB.out.2.1.2; have := HVB.out.2.2.1.2
    omega
  have HR := Lib.hid hR
  have HSN := Lib.hid (fun i => Ne.rwK_succ b l q G ac i)
  have HST := Lib.hid (fun i (h : (Ne.rwK b l q G ac i).length = 200) (j : Nat) (hj : i ≤ j) => Ne.rwK_stop h hj)
  have HLN := Lib.hid (fun i => Ne.rwK_len b l q G ac i)
  have HTT := Lib.hid hTT
  have HF := Lib.hid hF
  have HP := Lib.hid hP
  have HGD := Lib.hid hGd
  have HARD := Lib.hid hard
  obtain ⟨i0, hi0, hz0, hn0, hy0⟩ := info_parts infoPc3
  have hB0 := ((Below.refl w.heap.size w).alloc (Nat.le_refl _) (.cells (boW b A n c) 33)).alloc (by simp) (.cells (Ne.grL G).toArray 95)
  have bB := (Blk.new w 33 (boW b A n c)).alloc (.cells (Ne.grL G).toArray 95)
  have bG := Blk.new (w.alloc (.cells (boW b A n c) 33)) 95 (Ne.grL G).toArray
  simp only [World.size_alloc] at bG
  have q2 := bG.cell 4
  have q3 := bG.cell 5
  have gac : G.ac = ac := ha
  have gup : G.up = up := hu
  simp only [List.getElem?_toArray, List.getElem?_cons_zero, List.getElem?_cons_succ] at q2 q3
  rw [ha] at q2
  rw [hu] at q3
  have hmul : (ac : Int) * (up : Int) = (T : Int) := by rw [← hTT]; simp
  have hwr : IntKind.i64.wrap ((ac : Int) * (up : Int)) = (T : Int) := by rw [hmul]; exact IntWalk.i64_in _ (by omega)
  have HMU := Lib.hid hmul
  clear hG hn hm hv ha hu hR hTT hF hP hvp hN hGd hard hmul
  go_enter Try.func73, Try.ntmps73
  go_wp2
  have hs0 : ((w.alloc (.cells (boW b A n c) 33)).alloc (.cells (Ne.grL G).toArray 95)).heap.size = w.heap.size + 2 := by simp
  generalize (w.alloc (.cells (boW b A n c) 33)).alloc (.cells (Ne.grL G).toArray 95) = w0 at *
  clear q2 q3 hwr gup
  go_loopw [9, 19] (fun v j wr => ∃ i : Nat, i ≤ T ∧ j = .int .i64 i ∧ (Ne.rwK b l q G ac i).length < 200 ∧ wr.ownsRow w0.heap.size 40 4 v (Ne.rwK b l q G ac i).length (flt Ne.pcL (Ne.rwK b l q G ac i)) ∧ Below w0.heap.size w0 wr) (fun _ j _ => T - (intOf j).toNat)
  case atStart => exact ⟨0, Nat.zero_le _, rfl, by simp [Ne.rwK], World.ownsRow_nil _ _ _ _, Below.refl _ _⟩
  case round =>
    obtain ⟨i, hi, rfl, hl2, hO, hB⟩ := hrel
    by_cases hlt : i < T
    · have hac0 : 0 < ac := by
        rcases Nat.eq_zero_or_pos ac with h | h
        · have := HTT.out; rw [h] at this; simp at this; omega
        · exact h
      obtain ⟨k, hk⟩ : ∃ k, k = i % ac := ⟨_, rfl⟩
      obtain ⟨k', hk'⟩ : ∃ k, k = i / ac := ⟨_, rfl⟩
      have k1 : k < ac := by rw [hk]; exact Nat.mod_lt _ hac0
      have k2 : k' < up := by rw [hk']; exact Nat.div_lt_of_lt_mul (by rw [HTT.out]; exact hlt)
      have e1 : (i : Int) % (ac : Int) = (k : Int) := by rw [hk]; simp
      have e2 : (i : Int).tmod (ac : Int) = (k : Int) := by rw [Int.tmod_eq_emod_of_nonneg (by omega)]; exact e1
      have e3 : (i : Int) / (ac : Int) = (k' : Int) := by rw [hk']; simp
      have e4 : (i : Int).tdiv (ac : Int) = (k' : Int) := by rw [Int.tdiv_eq_ediv_of_nonneg (by omega)]; exact e3
      have e5 : ¬ (ac : Int) = 0 := by clear e1 e2 e3 e4; omega
      have e6 : ¬ ac = 0 := by clear e1 e2 e3 e4; omega
      obtain ⟨X, hX⟩ : ∃ X, G.fx + (k : Int) * G.sx = X := ⟨_, rfl⟩
      obtain ⟨Y, hY⟩ : ∃ Y, G.fy + (k' : Int) * G.sy = Y := ⟨_, rfl⟩
      have hgp : Ne.gp q G ac i = ⟨q, X, Y, false⟩ := by rw [← hX, ← hY, hk, hk']; rfl
      have hgx := (HGP.out i hlt).2
      have HLYi := HLY.out i hlt
      have HIBi := HIB.out i hlt
      have HGLi := HGL.out i
      have HSNi := HSN.out i
      rw [hgp] at hgx HLYi HIBi HGLi HSNi
      obtain ⟨PL, hPL⟩ : ∃ PL, Ne.lyg l ⟨q, X, Y, false⟩ = PL := ⟨_, rfl⟩
      obtain ⟨x, hx⟩ : ∃ x, Ne.clB b PL = x := ⟨_, rfl⟩
      rw [hPL] at HLYi HIBi HGLi HSNi
      rw [hx] at HSNi
      rw [if_neg (by omega)] at HSNi
      have HLY1 := Lib.hid HLYi
      have HIB1 := Lib.hid (HIBi x hx)
      have HSN1 := Lib.hid HSNi
      have HGL1 := Lib.hid HGLi
      obtain ⟨⟨x1, x2⟩, y1, y2⟩ := hgx
      have a1 := HARD.out.1
      have a2 := HARD.out.2.1
      have a3 := HGD.out
      simp only at x1 x2 y1 y2
      have m1 : -65000 ≤ (k : Int) * G.sx ∧ (k : Int) * G.sx ≤ 75000 := by omega
      have m2 : -65000 ≤ (k' : Int) * G.sy ∧ (k' : Int) * G.sy ≤ 75000 := by omega
      have g1 : -5000 ≤ G.fx ∧ G.fx ≤ 5000 := by omega
      have g2 : -5000 ≤ G.fy ∧ G.fy ≤ 5000 := by omega
      obtain ⟨m1, m3⟩ := m1
      obtain ⟨m2, m4⟩ := m2
      obtain ⟨g1, g3⟩ := g1
      obtain ⟨g2, g4⟩ := g2
      have bB1 := bB.below hB bB.lt
      have bG1 := bG.below hB bG.lt
      have c0 := bG1.cell 0
      have c1 := bG1.cell 1
      have c2 := bG1.cell 2
      have c3 := bG1.cell 3
      have c4 := bG1.cell 4
      simp only [List.getElem?_toArray, List.getElem?_cons_zero, List.getElem?_cons_succ] at c0 c1 c2 c3 c4
      rw [gac] at c4
      have HXX := Lib.hid hX
      have HYY := Lib.hid hY
      clear hgp HLYi HIBi HSNi HGLi hPL hx a1 a2 a3 hX hY hk hk'
      go_wp2
      go_quiet (fail)
      have bB2 : Blk (wr.drewN nq) w.heap.size 33 (boW b A n c) := bB1
      have bG2 : Blk (wr.drewN nq) (w.heap.size + 1) 95 (Ne.grL G).toArray := bG1
      have hB2 := Go.Proofs.Ytlikmlhlfbdchaa.Below.drewN (n := nq) hB
      have hO2 : (wr.drewN nq).ownsRow w0.heap.size 40 4 u9 (Ne.rwK b l q G ac i).length (flt Ne.pcL (Ne.rwK b l q G ac i)) := hO
      clear bB1 bG1 hB hO c0 c1 c2 c3 c4
      generalize wr.drewN nq = wd at *
      have d0 := bG2.cell 0
      have d1 := bG2.cell 1
      have d2 := bG2.cell 2
      have d3 := bG2.cell 3
      simp only [List.getElem?_toArray, List.getElem?_cons_zero, List.getElem?_cons_succ] at d0 d1 d2 d3
      go_wp2
      rw [HXX.out, HYY.out]
      have bB3 := bB2.alloc (.cells (Ne.pcL ⟨q, X, Y, false⟩).toArray 40)
      have bP3 := Blk.new wd 40 (Ne.pcL ⟨q, X, Y, false⟩).toArray
      have hB3 := hB2.alloc hB2.size (.cells (Ne.pcL ⟨q, X, Y, false⟩).toArray 40)
      have hO3 := hO2.alloc (.cells (Ne.pcL ⟨q, X, Y, false⟩).toArray 40)
      clear d0 d1 d2 d3 bB2 hB2 hO2 bG2
      generalize wd.alloc (.cells (Ne.pcL ⟨q, X, Y, false⟩).toArray 40) = we at *
      refine wp_region_noPanic ?_
      refine wp_region_held (S := fun V => Below we.heap.size we V) (by kernel_rfl) ?_
      change wpAnyH _ _ _ _ _ _ _ _ (World.drew _)
      have hS : (fun V => Below we.heap.size we V) we.drew := (Below.refl _ _).drew
      have p0 := bB3.cell 0
      have p1 := bB3.cell 1
      have p2 := bB3.cell 2
      have p3 := bB3.cell 3
      have r0 := bP3.cell 0
      have r1 := bP3.cell 1
      have r2 := bP3.cell 2
      have r3 := bP3.cell 3
      have l1 := bB3.lt
      have l2 := bP3.lt
      simp only [List.getElem?_toArray, List.getElem?_cons_zero, List.getElem?_cons_succ] at p0 p1 p2 p3 r0 r1 r2 r3
      generalize World.drew we = V0 at *
      refine takeD (i := 0) (d := some 50) (v := ?_) rfl rfl (by kernel_rfl) (by decide +kernel) (by decide +kernel) (fun _ _ _ h => h) (Or.inl ⟨by first | kernel_rfl | rfl, ?_⟩) hS ?_
      rotate_left
      · intro w' hT; have t0 := (Below.cell hT (p := ⟨w.heap.size, 0, none⟩) l1).trans p0; have t1 := (Below.cell hT (p := ⟨w.heap.size, 1, none⟩) l1).trans p1; have t2 := (Below.cell hT (p := ⟨w.heap.size, 2, none⟩) l1).trans p2; have t3 := (Below.cell hT (p := ⟨w.heap.size, 3, none⟩) l1).trans p3; first | (go_simp; done) | (go_simp; with_reducible rfl)
      refine takeD (i := 1) (d := some 51) (v := ?_) rfl rfl (by kernel_rfl) (by decide +kernel) (by decide +kernel) (fun _ _ _ h => h) (Or.inl ⟨by first | kernel_rfl | rfl, ?_⟩) hS ?_
      rotate_left
      · intro w' hT; first | (go_simp; done) | (go_simp; with_reducible rfl)
      refine takeD (i := 2) (d := some 52) (v := ?_) rfl rfl (by kernel_rfl) (by decide +kernel) (by decide +kernel) (fun _ _ _ h => h) (Or.inl ⟨by first | kernel_rfl | rfl, ?_⟩) hS ?_
      rotate_left
      · intro w' hT; have t0 := (Below.cell hT (p := ⟨wd.heap.size, 0, none⟩) l2).trans r0; have t1 := (Below.cell hT (p := ⟨wd.heap.size, 1, none⟩) l2).trans r1; have t2 := (Below.cell hT (p := ⟨wd.heap.size, 2, none⟩) l2).trans r2; have t3 := (Below.cell hT (p := ⟨wd.heap.size, 3, none⟩) l2).trans r3; first | (go_simp; done) | (go_simp; with_reducible rfl)
      refine wpAnyH_all (rs := [3]) (by decide +kernel) (by simp) ?_
      intro i1 hi1
      obtain rfl := List.mem_singleton.1 hi1
      refine wpOp_goE rfl rfl (fun K hK' => ?_)
      go_simp
      have hV0 : Below w.heap.size w V0 := hB0.trans ((hB3.trans (Below.mono hS hB3.size)).mono hB0.size)
      refine (HLY1.out V0 (HP.out.below hV0)).mono ?_
      rintro e V1 ⟨v, rfl, hLO, hb1⟩
      have hS1 := Below.trans hS (hb1.mono (Below.size hS))
      refine hK' _ _ ⟨hS1, ?_⟩
      clear hK' K
      have hLO' : V1.ownsRow V0.heap.size 76 2 v PL.length (flat PL) := by rw [HGL1.out]; exact hLO
      obtain ⟨C, d, hvC, hpl, hcd⟩ := pts_of_owns' hLO'
      rw [HGL1.out] at hvC hcd
      subst hvC
      have HPL := Lib.hid hpl
      have hV1 := hV0.trans (hb1.mono hV0.size)
      clear hLO hLO' hpl hb1
      refine wpAnyH_all (rs := [4]) (by decide +kernel) (by simp) ?_
      intro i1 hi1
      obtain rfl := List.mem_singleton.1 hi1
      refine wpOp_goE rfl rfl (fun K hK' => ?_)
      go_simp
      refine (HIB1.out C d hcd V1 (HF.out.below hV1) HPL.out).mono ?_
      rintro e V2 ⟨rfl, hb2⟩
      have hS2 := Below.trans hS1 (hb2.mono (Below.size hS1))
      refine hK' _ _ ⟨hS2, ?_⟩
      clear hK' K
      refine wpAnyH_done (by decide +kernel) ?_ _
      refine NoPanic.normal ?_
      have hB4 := hB3.trans (Below.mono hS2 hB3.size)
      have hO4 := own_keepE hO3 hS2
      have bP4 := bP3.below hS2 bP3.lt
      have hrP := bP4.range
      clear p0 p1 p2 p3 r0 r1 r2 r3 l1 l2 hO3 bP3 bB3
      obtain ⟨ln, hln⟩ : ∃ ln, (Ne.rwK b l q G ac i).length = ln := ⟨_, rfl⟩
      rw [hln] at hl2 hO4
      have HLN1 := Lib.hid hln
      cases x with
      | false =>
        rw [if_neg (by simp)] at HSN1
        have HS9 := Lib.hid HSN1.out
        obtain ⟨A9, c9, rfl⟩ := own_slice hO4
        have hne : ((ln : Int) == 200) = false := by simp; omega
        have HO4 := Lib.hid hO4
        have hB5 := hB4
        clear hln hO4 hrP bP4
        go_wp2
        go_roundw
        case rel => exact ⟨i + 1, by omega, by go_num, by rw [HS9.out, HLN1.out]; exact hl2, by rw [HS9.out, HLN1.out]; exact HO4.out, hB5⟩
        case measure => simp [intOf]; omega
      | true =>
        rw [if_pos rfl] at HSN1
        have HE : Hid (flt Ne.pcL (Ne.rwK b l q G ac (i + 1)) = flt Ne.pcL (Ne.rwK b l q G ac i) ++ Ne.pcL ⟨q, X, Y, false⟩) := Lib.hid (by
          rw [HSN1.out, flt_append, flt_one])
        have HL8 : Hid ((Ne.rwK b l q G ac (i + 1)).length = ln + 1) := Lib.hid (by rw [HSN1.out, List.length_append, HLN1.out]; rfl)
        have HOW := Lib.hid (hO4.alloc (.cells (Ne.pcL ⟨q, X, Y, false⟩).toArray 40))
        have HLT := Lib.hid hO4.lt
        clear hln hO4 bP4
        have hOB : w0.heap.size ≤ (V2.alloc (.cells (Ne.pcL ⟨q, X, Y, false⟩).toArray 40)).heap.size := by have := hB4.size; simp; omega
        have hB5 := hB4.alloc hB4.size (.cells (Ne.pcL ⟨q, X, Y, false⟩).toArray 40)
        by_cases h2 : ln + 1 = 200
        · have hne : (((ln : Int) + 1) == 200) = true := by simp; omega
          have HS8 := Lib.hid (HST.out (i + 1) (by rw [HL8.out]; exact h2) T (by omega))
          go_wp2_with (first | refine ldm_pc hrP rfl _ rfl rfl ?_ | (at_builtin; refine wpList_append_own _ rfl _ _ 35 rfl w0.heap.size 40 i0 _ 4 32 Try.underlying35 hi0 hz0 hn0 hy0 rfl (by decide) _ _ _ rfl HOW.out ⟨V2.heap.size, 0, none⟩ 1 1 (Ne.pcL ⟨q, X, Y, false⟩) rfl rfl (new_cells' _ _ _ rfl) (Ne.encPc.one _) (by unfold maxLen; omega) (by omega) (by have := hB4.size; simp; omega) ?_; intro v' w9 hown' hgrow _; obtain ⟨A8, c8, rfl⟩ := own_slice hown'; have HO9 := Lib.hid hown'; have HG9 := Lib.hid hgrow; clear hown' hgrow))
          have hB9 := hB5.grown HG9.out hB5.size (fun s e => (HLT.out s e).1)
          go_ret
          refine ⟨.slice A8 200 c8, rfl, ?_, hB0.trans (hB9.mono hB0.size)⟩
          have h9 := HO9.out.mono hB0.size
          rw [h2] at h9
          rw [← HR.out, HS8.out, HL8.out, HE.out, h2]
          exact h9
        · have hne : (((ln : Int) + 1) == 200) = false := by simp; omega
          go_wp2_with (first | refine ldm_pc hrP rfl _ rfl rfl ?_ | (at_builtin; refine wpList_append_own _ rfl _ _ 35 rfl w0.heap.size 40 i0 _ 4 32 Try.underlying35 hi0 hz0 hn0 hy0 rfl (by decide) _ _ _ rfl HOW.out ⟨V2.heap.size, 0, none⟩ 1 1 (Ne.pcL ⟨q, X, Y, false⟩) rfl rfl (new_cells' _ _ _ rfl) (Ne.encPc.one _) (by unfold maxLen; omega) (by omega) (by have := hB4.size; simp; omega) ?_; intro v' w9 hown' hgrow _; obtain ⟨A8, c8, rfl⟩ := own_slice hown'; have HO9 := Lib.hid hown'; have HG9 := Lib.hid hgrow; clear hown' hgrow))
          have hB9 := hB5.grown HG9.out hB5.size (fun s e => (HLT.out s e).1)
          go_roundw
          case rel => exact ⟨i + 1, by omega, by go_num, by rw [HL8.out]; omega, by rw [HL8.out, HE.out]; exact HO9.out, hB9⟩
          case measure => simp [intOf]; omega
    · obtain rfl : i = T := by omega
      have HX : Hid (Ne.rwK b l q G ac i = R) := Lib.hid HR.out
      go_wp2
      go_ret
      exact ⟨_, rfl, by rw [HX.out] at hO; exact hO.mono hB0.size, hB0.trans (hB.mono hB0.size)⟩
end Go.Proofs.Ytlikmlhlfbdchaa
/- nest: Rows of the program. -/
namespace Go.Proofs.Ytlikmlhlfbdchaa
open Go.RowKit Go.Shelf
namespace Ne
/-- how many boxes a row has, and how many rows there are -/
def acs (b : Bo) (l : List Pa) (q : Nat) : Nat := (grd b (l.getD q za)).ac.toNat
def ups (b : Bo) (l : List Pa) (q : Nat) : Nat := (grd b (l.getD q za)).up.toNat
/-- what Rows answers -/
noncomputable def roE (b : Bo) (l : List Pa) (i : Int) : Int := if cpE b l i = 0 then (if 10000 < acs b l i.toNat * ups b l i.toNat then 4 else 0) else cpE b l i
noncomputable def roV (b : Bo) (l : List Pa) (i : Int) : List Pc := if roE b l i = 0 then rwK b l i (grd b (l.getD i.toNat za)) (acs b l i.toNat) (acs b l i.toNat * ups b l i.toNat) else []
theorem cpE_ok {b : Bo} {l : List Pa} {i : Int} (h : cpE b l i = 0) : vBo b = true ∧ vPa l = true ∧ ∃ q : Nat, i = q ∧ q < l.length := by
  unfold cpE at h
  split at h
  · rename_i hv
    split at h
    · rename_i hx
      unfold vAll at hv
      unfold ix at hx
      simp only [Bool.and_eq_true, decide_eq_true_eq] at hv hx
      exact ⟨hv.1, hv.2, i.toNat, by omega, by omega⟩
    · cases h
  · cases h
theorem vPa_at {l : List Pa} (h : vPa l = true) {q : Nat} (hq : q < l.length) : validB (l.getD q za).o = true := by
  unfold vPa at h
  simp only [Bool.and_eq_true] at h
  exact vPs_at h.2 hq
theorem ac_nat {b : Bo} {l : List Pa} {q : Nat} (hb : vBo b = true) (hv : validB (l.getD q za).o = true) : (grd b (l.getD q za)).ac = acs b l q ∧ (grd b (l.getD q za)).up = ups b l q ∧ acs b l q ≤ 62000 ∧ ups b l q ≤ 62000 := by
  have h := vBo_in hb
  have ha := ard_bd (valid_of hv)
  have h1 := bxs_le (W := b.w) (L := (ard (l.getD q za).o).w) (g := b.g) (by omega) ha.2.2.1.1 h.2.2.1.1
  have h2 := bxs_le (W := b.h) (L := (ard (l.getD q za).o).h) (g := b.g) (by omega) ha.2.2.2.1 h.2.2.1.1
  have e1 : (grd b (l.getD q za)).ac = bxs b.w (ard (l.getD q za).o).w b.g := rfl
  have e2 : (grd b (l.getD q za)).up = bxs b.h (ard (l.getD q za).o).h b.g := rfl
  unfold acs ups
  rw [e1, e2]
  omega
theorem roE_nat {b : Bo} {l : List Pa} {q : Nat} (h : cpE b l q = 0) : roE b l q = if 10000 < acs b l q * ups b l q then 4 else 0 := if_pos h
theorem roV_nat {b : Bo} {l : List Pa} {q : Nat} (h : cpE b l q = 0) : roV b l q = if 10000 < acs b l q * ups b l q then [] else rwK b l q (grd b (l.getD q za)) (acs b l q) (acs b l q * ups b l q) := by
  unfold roV
  rw [roE_nat h]
  by_cases h1 : 10000 < acs b l q * ups b l q
  · rw [if_pos h1, if_neg (by decide), if_pos h1]
  · rw [if_neg h1, if_pos rfl, if_neg h1]; rfl
theorem roE_bad {b : Bo} {l : List Pa} {i : Int} (h : ¬ cpE b l i = 0) : roE b l i = cpE b l i ∧ roV b l i = [] := by
  have h1 : roE b l i = cpE b l i := if_neg h
  exact ⟨h1, by unfold roV; rw [h1, if_neg h]⟩
end Ne

section
variable {ops : Array Oper} {rest : List Oper} {o : Oper} {a : Act} {w : World} {Q : Exit → Act → World → Prop} {b off : Nat}
theorem ldm_gr {s : Ne.Gr} (hr : w.rangeAt b off (Ne.grL s)) (hw : Region.wanted o (yielded ops a.tmps) = true) (x : Operand) (ho : o.op = .load 95 x)
    (hx : a.eval x = .pointer (some ⟨b, off, none⟩)) (h : wpList Try.prog ops Q rest (a.put o.dst (.agg (Ne.grL s).toArray)) w) : wpList Try.prog ops Q (o :: rest) a w :=
  wpList_wanted hw fun _ hK => wp_load_mid 95 x ho b off hx (Ne.grL s) _ hr Try.underlying95 rfl infoGr (hK _ _ h)
end
set_option maxRecDepth 100000 in
set_option maxHeartbeats 8000000 in
theorem Rows_b (b : Ne.Bo) (A B : Option Addr) (l : List Ne.Pa) (n c m c' : Nat) (i : Int) (hn : b.fs.length = n) (hm : l.length = m) (E : Int) (hE : Ne.roE b l i = E) (R : List Ne.Pc) (hR : Ne.roV b l i = R)
    (w : World) (hF : Rows Ne.rcL 4 w A b.fs) (hP : Ne.PaM w B l) :
    Calls Try.prog 33 #[.agg (boW b A n c), .slice B m c', .int .i64 i] w fun e w' => ∃ v, e = .returned (.tuple #[v, .int .i64 E]) ∧ w'.ownsRow w.heap.size 40 4 v R.length (flt Ne.pcL R) ∧ Below w.heap.size w w' := by
  obtain ⟨E0, hE0⟩ : ∃ E0, Ne.cpE b l i = E0 := ⟨_, rfl⟩
  have hB0 := (Below.refl w.heap.size w).alloc (Nat.le_refl _) (.cells (boW b A n c) 33)
  have bB := Blk.new w 33 (boW b A n c)
  have HC := Lib.hid (fun W h h' => checkpart_b b A B c n c' m l hn hm i E0 hE0 W h h')
  have hrg := bB.range
  have HF := Lib.hid hF
  have HP := Lib.hid hP
  clear hF hP
  by_cases h0 : E0 = 0
  · subst h0
    obtain ⟨hvb, hvp, q, rfl, hq⟩ := Ne.cpE_ok hE0
    have hvq := Ne.vPa_at hvp hq
    obtain ⟨g1, g2, g3, g4⟩ := Ne.ac_nat (l := l) hvb hvq
    rw [Ne.roE_nat hE0] at hE
    rw [Ne.roV_nat hE0] at hR
    obtain ⟨ac, hac⟩ : ∃ ac, Ne.acs b l q = ac := ⟨_, rfl⟩
    obtain ⟨up, hup⟩ : ∃ up, Ne.ups b l q = up := ⟨_, rfl⟩
    rw [hac] at g1 g3 hE hR
    rw [hup] at g2 g4 hE hR
    have hvi := Ne.vBo_in hvb
    obtain ⟨N, hN⟩ : ∃ N, (l.getD q Ne.za).o.length = N := ⟨_, rfl⟩
    obtain ⟨G, hG⟩ : ∃ G, Ne.grd b (l.getD q Ne.za) = G := ⟨_, rfl⟩
    have HGR := Lib.hid (fun D d (hd : N ≤ d) W (h : Pts W D (l.getD q Ne.za).o) => gridof_b b A D c n d N (l.getD q Ne.za) hN hd (valid_of hvq) (by omega) hvi.1.2 (by omega) hvi.2.1.2 hvi.2.2.1.1 hvi.2.2.1.2 G hG W h)
    have HRW := Lib.hid (fun (hT : ac * up ≤ 10000) (R' : List Ne.Pc) (hR' : Ne.rwK b l q G ac (ac * up) = R') W h h' => by
      have := rows_b b A B l n c m c' q ac up hn hm (by omega) hvb hvq g1 g2 hT R' (by rw [hG]; exact hR') W h h'
      rwa [hG] at this)
    rw [hG] at g1 g2 hR
    have HHE := Lib.hid hE
    have HHR := Lib.hid hR
    have HN := Lib.hid hN
    have HM := Lib.hid hm
    have hqm : (q : Int) < (m : Int) := by omega
    have HG1 := Lib.hid g1
    have HG2 := Lib.hid g2
    clear hE hR hE0 hvb hvp hvq hvi hac hup hN hG hn hm g1 g2
    go_enter Try.func33, Try.ntmps33
    go_wp2_with (refine ldm_bo hrg rfl _ rfl rfl ?_)
    refine (HC.out _ (HF.out.below hB0) (HP.out.below hB0)).mono ?_
    rintro e w1 ⟨rfl, hb1⟩
    have bB1 := bB.below hb1 bB.lt
    have hB1 := hB0.trans (hb1.mono hB0.size)
    clear bB hrg hB0 hb1 HC
    go_wp2
    obtain ⟨gP, off, hBe, hgP, hcP⟩ := (HP.out.below hB1).open (by rw [HM.out]; omega)
    obtain ⟨D, d, d1, d2, d3, d4⟩ := hcP q (by rw [HM.out]; omega)
    rw [HN.out] at d1 d4
    obtain ⟨tt, htt⟩ : ∃ tt, (l.getD q Ne.za).t = tt := ⟨_, rfl⟩
    have HTT := Lib.hid htt
    rw [htt] at d2
    have HD3 := Lib.hid d3
    clear hcP htt d3
    subst hBe
    refine wp_region_held (S := fun V => Below w1.heap.size w1 V) (by kernel_rfl) ?_
    change wpAnyH _ _ _ _ _ _ _ _ (World.drew _)
    have hS : (fun V => Below w1.heap.size w1 V) w1.drew := (Below.refl _ _).drew
    have p0 := bB1.cell 0
    have p1 := bB1.cell 1
    have p2 := bB1.cell 2
    have p3 := bB1.cell 3
    have l1 := bB1.lt
    simp only [List.getElem?_toArray, List.getElem?_cons_zero, List.getElem?_cons_succ] at p0 p1 p2 p3
    generalize World.drew w1 = V0 at *
    refine takeD (i := 0) (d := some 17) (v := ?_) rfl rfl (by kernel_rfl) (by decide +kernel) (by decide +kernel) (fun _ _ _ h => h) (Or.inl ⟨by first | kernel_rfl | rfl, ?_⟩) hS ?_
    rotate_left
    · intro w' hT; have t0 := (Below.cell hT (p := ⟨w.heap.size, 0, none⟩) l1).trans p0; have t1 := (Below.cell hT (p := ⟨w.heap.size, 1, none⟩) l1).trans p1; have t2 := (Below.cell hT (p := ⟨w.heap.size, 2, none⟩) l1).trans p2; have t3 := (Below.cell hT (p := ⟨w.heap.size, 3, none⟩) l1).trans p3; first | (go_simp; done) | (go_simp; with_reducible rfl)
    refine takeD (i := 1) (d := some 18) (v := ?_) rfl rfl (by kernel_rfl) (by decide +kernel) (by decide +kernel) (fun _ _ _ h => h) (Or.inl ⟨by first | kernel_rfl | rfl, ?_⟩) hS ?_
    rotate_left
    · intro w' hT; first | (go_simp; done) | (go_simp; with_reducible rfl)
    refine takeD (i := 2) (d := some 19) (v := ?_) rfl rfl (by kernel_rfl) (by decide +kernel) (by decide +kernel) (fun _ _ _ h => h) (Or.inl ⟨by first | kernel_rfl | rfl, ?_⟩) hS ?_
    rotate_left
    · intro w' hT; first | (go_simp; done) | (go_simp; with_reducible rfl)
    refine takeD (i := 3) (d := some 20) (v := ?_) rfl rfl (by kernel_rfl) (by decide +kernel) (by decide +kernel) (fun _ _ _ h => h) (Or.inl ⟨by first | kernel_rfl | rfl, ?_⟩) hS ?_
    rotate_left
    · intro w' hT; first | (go_simp; done) | (go_simp; with_reducible rfl)
    refine takeD (i := 4) (d := some 21) (v := ?_) rfl rfl (by kernel_rfl) (by decide +kernel) (by decide +kernel) (fun _ _ _ h => h) (Or.inl ⟨by first | kernel_rfl | rfl, ?_⟩) hS ?_
    rotate_left
    · intro w' hT; have t0 := (Below.cell hT (p := ⟨gP, off + q * 2, none⟩) hgP).trans d1; have t1 := (Below.cell hT (p := ⟨gP, off + q * 2 + 1, none⟩) hgP).trans d2; first | (go_simp; done) | (go_simp; with_reducible rfl)
    refine wpAnyH_all (rs := [5, 6]) (by decide +kernel) (by simp) ?_
    intro i1 hi1
    have hT5 : ∀ V, Below w1.heap.size w1 V → Calls Try.prog 72 #[.agg (boW b A n c), .agg #[.slice D N d, .bool tt]] V fun e w' => e = .returned (.agg (Ne.grL G).toArray) ∧ Below V.heap.size V w' := fun V hV => by
      have := HGR.out D d d4 V (HD3.out.below hV)
      rwa [HTT.out] at this
    have HT5 := Lib.hid hT5
    clear hT5 p0 p1 p2 p3 d1 d2
    rcases (show i1 = 5 ∨ i1 = 6 by simpa using hi1) with h5 | h6
    case' inl =>
      clear hi1
      subst h5
      refine wpOp_goE rfl rfl (fun K hK' => ?_)
      go_simp
      refine (HT5.out V0 hS).mono ?_
      rintro e V1 ⟨rfl, hb2⟩
      have hS1 := Below.trans hS (hb2.mono (Below.size hS))
      refine hK' _ _ ⟨hS1, ?_⟩
      clear hK' K
      refine wpAnyH_all (rs := [6]) (by decide +kernel) (by simp) ?_
      intro i1 hi1
      obtain rfl := List.mem_singleton.1 hi1
      refine wpOp_goE rfl rfl (fun K hK' => ?_)
      go_simp
      have bN := Blk.new V1 95 #[.int .i64 0, .int .i64 0, .int .i64 0, .int .i64 0, .int .i64 0, .int .i64 0]
      have hS2 := Below.alloc hS1 (Below.size hS1) (.cells #[.int .i64 0, .int .i64 0, .int .i64 0, .int .i64 0, .int .i64 0, .int .i64 0] 95)
      refine hK' _ _ ⟨hS2, ?_⟩
      clear hK' K
      have hgl : w1.heap.size ≤ V1.heap.size := Below.size hS1
      generalize V1.alloc (.cells #[.int .i64 0, .int .i64 0, .int .i64 0, .int .i64 0, .int .i64 0, .int .i64 0] 95) = V2 at *
      generalize V1.heap.size = gN at *
    case' inr =>
      clear hi1
      subst h6
      refine wpOp_goE rfl rfl (fun K hK' => ?_)
      go_simp
      have bN0 := Blk.new V0 95 #[.int .i64 0, .int .i64 0, .int .i64 0, .int .i64 0, .int .i64 0, .int .i64 0]
      have hS1 := Below.alloc hS (Below.size hS) (.cells #[.int .i64 0, .int .i64 0, .int .i64 0, .int .i64 0, .int .i64 0, .int .i64 0] 95)
      refine hK' _ _ ⟨hS1, ?_⟩
      clear hK' K
      refine wpAnyH_all (rs := [5]) (by decide +kernel) (by simp) ?_
      intro i1 hi1
      obtain rfl := List.mem_singleton.1 hi1
      refine wpOp_goE rfl rfl (fun K hK' => ?_)
      go_simp
      refine (HT5.out _ hS1).mono ?_
      rintro e V2 ⟨rfl, hb2⟩
      have hS2 := Below.trans hS1 (hb2.mono (Below.size hS1))
      refine hK' _ _ ⟨hS2, ?_⟩
      clear hK' K
      have bN := bN0.below hb2 bN0.lt
      have hgl : w1.heap.size ≤ V0.heap.size := Below.size hS
      generalize V0.heap.size = gN at *
    all_goals
      have f0 := bN.frozen 0
      have f1 := bN.frozen 1
      have f2 := bN.frozen 2
      have f3 := bN.frozen 3
      have f4 := bN.frozen 4
      have f5 := bN.frozen 5
      have c0 := bN.cell 0
      have c1 := bN.cell 1
      have c2 := bN.cell 2
      have c3 := bN.cell 3
      have c4 := bN.cell 4
      have c5 := bN.cell 5
      simp only [List.getElem?_toArray, List.getElem?_cons_zero, List.getElem?_cons_succ] at c0 c1 c2 c3 c4 c5
      have bN6 := (((((bN.set_ 0 (.int .i64 G.fx)).set_ 1 (.int .i64 G.fy)).set_ 2 (.int .i64 G.sx)).set_ 3 (.int .i64 G.sy)).set_ 4 (.int .i64 G.ac)).set_ 5 (.int .i64 G.up)
      have hS6 := Below.setCell (Below.setCell (Below.setCell (Below.setCell (Below.setCell (Below.setCell hS2 (p := ⟨gN, 0, none⟩) hgl (.int .i64 G.fx)) (p := ⟨gN, 1, none⟩) hgl (.int .i64 G.fy)) (p := ⟨gN, 2, none⟩) hgl (.int .i64 G.sx)) (p := ⟨gN, 3, none⟩) hgl (.int .i64 G.sy)) (p := ⟨gN, 4, none⟩) hgl (.int .i64 G.ac)) (p := ⟨gN, 5, none⟩) hgl (.int .i64 G.up)
      refine wpAnyH_all (rs := [7]) (by decide +kernel) (by simp) ?_
      intro i1 hi1
      obtain rfl := List.mem_singleton.1 hi1
      refine wpOp_goE rfl rfl (fun K hK' => ?_)
      go_simp
      refine hK' _ _ ⟨hS6, ?_⟩
      clear hK' K f0 f1 f2 f3 f4 f5 c0 c1 c2 c3 c4 c5 hS2 bN
      generalize (((((V2.setCell ⟨gN, 0, none⟩ (.int .i64 G.fx)).setCell ⟨gN, 1, none⟩ (.int .i64 G.fy)).setCell ⟨gN, 2, none⟩ (.int .i64 G.sx)).setCell ⟨gN, 3, none⟩ (.int .i64 G.sy)).setCell ⟨gN, 4, none⟩ (.int .i64 G.ac)).setCell ⟨gN, 5, none⟩ (.int .i64 G.up) = V3 at *
      refine wpAnyH_done (by decide +kernel) ?_ _
      have bN7 : Blk V3 gN 95 (Ne.grL G).toArray := bN6
      have e4 := bN7.cell 4
      have e5 := bN7.cell 5
      simp only [List.getElem?_toArray, List.getElem?_cons_zero, List.getElem?_cons_succ] at e4 e5
      rw [HG1.out] at e4
      rw [HG2.out] at e5
      have hB3 := hB1.trans (Below.mono hS6 hB1.size)
      have hrgB := (bB1.below hS6 bB1.lt).range
      have hrgG := bN7.range
      obtain ⟨T, hT⟩ : ∃ T, ac * up = T := ⟨_, rfl⟩
      have hT' : (ac : Int) * (up : Int) = (T : Int) := by rw [← hT]; simp
      have hTb : T ≤ 3844000000 := by rw [← hT]; exact Nat.mul_le_mul g3 g4
      have hHE := HHE.out
      have hHR := HHR.out
      have hRW := HRW.out
      rw [hT] at hHE hHR hRW
      have HRW2 := Lib.hid hRW
      clear bN6 hT hRW hS6
      by_cases hbig : 10000 < T
      · rw [if_pos hbig] at hHE hHR
        subst hHE hHR
        have dbig : decide ((10000 : Int) < (T : Int)) = true := by simp; omega
        go_wp2
        go_ret2
        exact ⟨.slice none 0 0, rfl, World.ownsRow_nil _ _ _ _, hB3⟩
      · rw [if_neg hbig] at hHE hHR
        subst hHE
        have HR3 := Lib.hid (HRW2.out (by omega) R hHR)
        have dbig : decide ((10000 : Int) < (T : Int)) = false := by simp; omega
        clear hHR
        go_wp2_with (first | refine ldm_bo hrgB rfl _ rfl rfl ?_ | refine ldm_gr hrgG rfl _ rfl rfl ?_)
        refine (HR3.out _ (HF.out.below hB3) (HP.out.below hB3)).mono ?_
        rintro e V4 ⟨v, rfl, hO, hb4⟩
        have hB4 := hB3.trans (hb4.mono hB3.size)
        go_wp2
        go_ret2
        exact ⟨v, rfl, hO.mono hB3.size, hB4⟩
  · obtain ⟨r1, r2⟩ := Ne.roE_bad (b := b) (l := l) (i := i) (by rw [hE0]; exact h0)
    have HEE : Hid (E = E0) := Lib.hid (by rw [← hE, r1, hE0])
    have HRR : Hid (R = []) := Lib.hid (by rw [← hR, r2])
    have hne : (E0 == 0) = false := by simp; exact h0
    clear hE hR r1 r2 hE0
    go_enter Try.func33, Try.ntmps33
    go_wp2_with (refine ldm_bo hrg rfl _ rfl rfl ?_)
    refine (HC.out _ (HF.out.below hB0) (HP.out.below hB0)).mono ?_
    rintro e w1 ⟨rfl, hb1⟩
    have hB1 := hB0.trans (hb1.mono hB0.size)
    go_wp2
    go_ret2
    exact ⟨.slice none 0 0, by rw [HEE.out]; rfl, by rw [HRR.out]; exact World.ownsRow_nil _ _ _ _, hB1⟩
end Go.Proofs.Ytlikmlhlfbdchaa
/- nest: the sanity check of all laws; Apart of both sides. -/
namespace Go.Proofs.Ytlikmlhlfbdchaa
open Go.RowKit Go.Shelf
namespace Ne
def aw0 : List Geo.XY := [(-20, -20), (20, -20), (20, 20), (-20, 20)]
theorem aw0_valid : Valid aw0 := by
  refine ⟨by decide, by decide, ?_, ?_⟩
  · intro k hk
    have : k = 0 ∨ k = 1 ∨ k = 2 ∨ k = 3 := by have : aw0.length = 4 := rfl
                                               omega
    rcases this with rfl | rfl | rfl | rfl <;> decide
  · intro i hi j hj h1 h2
    have hl : aw0.length = 4 := rfl
    rw [hl] at hi hj h2
    have a : i = 0 ∨ i = 1 ∨ i = 2 ∨ i = 3 := by omega
    have b : j = 0 ∨ j = 1 ∨ j = 2 ∨ j = 3 := by omega
    rcases a with rfl | rfl | rfl | rfl <;> rcases b with rfl | rfl | rfl | rfl <;> first | (exfalso; omega) | decide
def awB : Bo := ⟨100, 60, 10, []⟩
def awP : List Pa := [⟨aw0, false⟩]
theorem aw_cp : cpE awB awP ((0 : Nat) : Int) = 0 := by
  have h1 : vBo awB = true := by decide
  have h2 : vPa awP = true := by
    unfold vPa
    rw [show awP.length = 1 from rfl]
    unfold vPs
    rw [show (awP.getD 0 za).o = aw0 from rfl, validB_true aw0_valid]
    simp [vPs]
  unfold cpE vAll
  rw [h1, h2]
  rfl
theorem aw_ac : acs awB awP 0 = 2 := by decide
theorem aw_up : ups awB awP 0 = 1 := by decide
theorem aw_E : roE awB awP ((0 : Nat) : Int) = 0 := by rw [roE_nat aw_cp, aw_ac, aw_up]; rfl
theorem aw_V : roV awB awP ((0 : Nat) : Int) = [⟨0, 20, 20, false⟩, ⟨0, 70, 20, false⟩] := by
  rw [roV_nat aw_cp, aw_ac, aw_up, if_neg (by decide)]
  have hc : ∀ o, clB awB o = true := fun _ => rfl
  rw [show 2 * 1 = 1 + 1 from rfl, rwK_succ, rwK_succ]
  simp only [hc, if_true]
  have : rwK awB awP ((0 : Nat) : Int) (grd awB (awP.getD 0 za)) 2 0 = [] := rfl
  rw [this]
  rw [show grd awB (awP.getD 0 za) = ⟨20, 20, 50, 50, 2, 1⟩ by rfl]
  decide
end Ne
theorem run_eqPc (x y : Ne.Pc) (r : Bool) (hr : decide (x = y) = r) (w : World) : (Op.equalIn 10000 40 (.agg (Ne.pcL x).toArray) (.agg (Ne.pcL y).toArray)).run Try.prog w = .ok r w := by
  subst hr
  have u3 := Try.underlying3
  have a3 := Try.isAgg3
  have q3 := Try.sizeOf3
  have u4 := Try.underlying4
  have a4 := Try.isAgg4
  have q4 := Try.sizeOf4
  rw [show (10000 : Nat) = 9999 + 1 from rfl]
  obtain ⟨a, b, c, d⟩ := x
  obtain ⟨e, f, g, h⟩ := y
  go_simp
  by_cases h1 : a = e <;> by_cases h2 : b = f <;> by_cases h3 : c = g <;> by_cases h4 : d = h <;> simp [h1, h2, h3, h4]

set_option maxRecDepth 100000 in
set_option maxHeartbeats 4000000 in
theorem awake_any (w : World) : Calls Try.prog 15 #[] w fun e w' => e = .returned (.bool true) ∧ Below w.heap.size w w' := by
  have hq : ∀ W, (Op.equalIn 10000 40 (.agg #[.int .i64 0, .int .i64 70, .int .i64 20, .bool false]) (.agg #[.int .i64 0, .int .i64 70, .int .i64 20, .bool false])).run Try.prog W = .ok true W := fun W => run_eqPc ⟨0, 70, 20, false⟩ ⟨0, 70, 20, false⟩ true (by decide) W
  have HQ := Lib.hid hq
  clear hq
  have hB0 := ((Below.refl w.heap.size w).alloc (Nat.le_refl _) (.cells #[.int .i64 (-20), .int .i64 (-20), .int .i64 20, .int .i64 (-20), .int .i64 20, .int .i64 20, .int .i64 (-20), .int .i64 20] 76)).alloc (by simp) (.cells #[.slice (some ⟨w.heap.size, 0, none⟩) 4 4, .bool false] 68)
  have bO := (Blk.new w 76 #[.int .i64 (-20), .int .i64 (-20), .int .i64 20, .int .i64 (-20), .int .i64 20, .int .i64 20, .int .i64 (-20), .int .i64 20]).alloc (.cells #[.slice (some ⟨w.heap.size, 0, none⟩) 4 4, .bool false] 68)
  have bP := Blk.new (w.alloc (.cells #[.int .i64 (-20), .int .i64 (-20), .int .i64 20, .int .i64 (-20), .int .i64 20, .int .i64 20, .int .i64 (-20), .int .i64 20] 76)) 68 #[.slice (some ⟨w.heap.size, 0, none⟩) 4 4, .bool false]
  simp only [World.size_alloc] at bP
  go_enter Try.func15, Try.ntmps15
  go_wp2_with fail
  have hpts : Pts _ (some ⟨w.heap.size, 0, none⟩) Ne.aw0 := .inr ⟨w.heap.size, 0, rfl, bO.lt, fun k hk => by
    have hl : Ne.aw0.length = 4 := rfl
    rw [hl] at hk
    have : k = 0 ∨ k = 1 ∨ k = 2 ∨ k = 3 := by omega
    rcases this with rfl | rfl | rfl | rfl
    · exact ⟨bO.cell 0, bO.cell 1⟩
    · exact ⟨bO.cell 2, bO.cell 3⟩
    · exact ⟨bO.cell 4, bO.cell 5⟩
    · exact ⟨bO.cell 6, bO.cell 7⟩⟩
  have hpa : Ne.PaM _ (some ⟨w.heap.size + 1, 0, none⟩) Ne.awP := .inr ⟨w.heap.size + 1, 0, rfl, bP.lt, fun i hi => by
    have hl : Ne.awP.length = 1 := rfl
    rw [hl] at hi
    obtain rfl : i = 0 := by omega
    exact ⟨some ⟨w.heap.size, 0, none⟩, 4, bP.cell 0, bP.cell 1, hpts, Nat.le_refl _⟩⟩
  refine (Rows_b Ne.awB none (some ⟨w.heap.size + 1, 0, none⟩) Ne.awP 0 0 1 1 ((0 : Nat) : Int) rfl rfl 0 Ne.aw_E _ Ne.aw_V _ (.inl rfl) hpa).mono ?_
  rintro e w1 ⟨v, rfl, hO, hb1⟩
  obtain ⟨A, c, rfl, hr, hc, _⟩ := rows_of_owns Ne.encPc hO
  obtain ⟨g, off, rfl, hg, hcc⟩ := hr.open (by decide)
  have h1 := hcc 1 (by decide)
  have d0 := h1 0 _ rfl
  have d1 := h1 1 _ rfl
  have d2 := h1 2 _ rfl
  have d3 := h1 3 _ rfl
  rw [show off + 1 * 4 + 0 = off + 1 * 4 from rfl] at d0
  have hB1 := hB0.trans (hb1.mono hB0.size)
  have hq := HQ.out
  clear hO hr hcc h1 hpts hpa bO bP hb1 hB0
  simp only [List.length_cons, List.length_nil, Nat.reduceAdd]
  go_wp2
  go_ret
  exact ⟨rfl, hB1⟩

theorem Ne.vgap (g : Int) : (decide (g < 0 ∨ 2000 < g)) = !(decide (0 ≤ g ∧ g ≤ 2000)) := by
  by_cases h : 0 ≤ g ∧ g ≤ 2000
  · rw [decide_eq_true h, decide_eq_false (by omega)]; rfl
  · rw [decide_eq_false h, decide_eq_true (by omega)]; rfl
namespace Ne
/-- what Apart answers -/
noncomputable def apE (o p : List Geo.XY) (g : Int) : Int := if (validB o && validB p) = true then (if 0 ≤ g ∧ g ≤ 2000 then 0 else 2) else 10
noncomputable def apV (o p : List Geo.XY) (g : Int) : Bool := if apE o p g = 0 then apB o p g else false
theorem dir_in {F : List Geo.XY} (h : Valid F) : DirOk F := fun k hk => by
  have h2 : (k + 1) % F.length < F.length := Nat.mod_lt _ (by omega)
  have a := h.2.2.1 k hk
  have b := h.2.2.1 _ h2
  unfold Geo.In at a b
  exact ⟨10000, 10000, by unfold sdir; simp only; omega, by unfold sdir; simp only; omega, by decide, by decide, by decide⟩
theorem near_in {o p : List Geo.XY} (h : Valid o) (k : Valid p) : Near o p := fun i j hi hj => by
  have a := h.2.2.1 i hi
  have b := k.2.2.1 j hj
  unfold Geo.In at a b
  omega
theorem apE_ok {o p : List Geo.XY} {g : Int} (h : apE o p g = 0) : Valid o ∧ Valid p ∧ 0 ≤ g ∧ g ≤ 2000 := by
  unfold apE at h
  split at h
  · rename_i hv
    simp only [Bool.and_eq_true] at hv
    split at h
    · rename_i hg
      exact ⟨valid_of hv.1, valid_of hv.2, hg.1, hg.2⟩
    · cases h
  · cases h
end Ne

set_option maxRecDepth 100000 in
set_option maxHeartbeats 2000000 in
theorem Apart_b (A B : Option Addr) (o p : List Geo.XY) (c c' m n : Nat) (hm : o.length = m) (hn : p.length = n) (g : Int) (hoc : m ≤ c) (hpc : n ≤ c') (E : Int) (hE : Ne.apE o p g = E) (V : Bool) (hV : Ne.apV o p g = V) (w : World) (hA : Pts w A o) (hB : Pts w B p) :
    Calls Try.prog 13 #[.slice A m c, .slice B n c', .int .i64 g] w fun e w' => e = .returned (.tuple #[.bool V, .int .i64 E]) ∧ Below w.heap.size w w' := by
  obtain ⟨x, hx⟩ : ∃ x, validB o = x := ⟨_, rfl⟩
  obtain ⟨y, hy⟩ : ∃ y, validB p = y := ⟨_, rfl⟩
  have HX := Lib.hid (fun W (h : Pts W A o) => by have := dvalid_b A o c W h x hx; rwa [hm] at this)
  have HY := Lib.hid (fun W (h : Pts W B p) => by have := dvalid_b B p c' W h y hy; rwa [hn] at this)
  have HA := Lib.hid hA
  have HB := Lib.hid hB
  obtain ⟨z, hz⟩ : ∃ z, decide (0 ≤ g ∧ g ≤ 2000) = z := ⟨_, rfl⟩
  have HZ := Lib.hid hz
  have HEE : Hid (E = if (x && y) = true then (if z = true then 0 else 2) else 10) := Lib.hid (by
    rw [← hE, ← hx, ← hy, ← hz]; unfold Ne.apE; simp only [decide_eq_true_eq])
  have HVV : Hid (V = if E = 0 then Ne.apB o p g else false) := Lib.hid (by rw [← hV, ← hE]; rfl)
  have HAP := Lib.hid (fun (h : E = 0) W (h1 : Pts W A o) (h2 : Pts W B p) => by
    have h' := Ne.apE_ok (hE.trans h)
    exact areapart_b A B o p c c' m n hm hn g (by have := h'.1.1; omega) (by have := h'.1.2.1; omega) hoc (by have := h'.2.1.1; omega) (by have := h'.2.1.2.1; omega) hpc (Ne.allBd_in h'.1.allin) (Ne.allBd_in h'.2.1.allin) (Ne.dir_in h'.1) (Ne.dir_in h'.2.1) (Ne.near_in h'.1 h'.2.1) h'.2.2.1 h'.2.2.2 _ rfl W h1 h2)
  clear hx hy hz hE hV hA hB hm hn hoc hpc
  cases x
  · have h1 := HEE.out
    simp at h1
    subst h1
    have h2 := HVV.out
    rw [if_neg (by decide)] at h2
    subst h2
    go_enter Try.func13, Try.ntmps13
    go_wp2_with fail
    refine (HX.out _ HA.out).mono ?_
    rintro e w1 ⟨rfl, b1⟩
    go_wp2
    go_ret2
    exact ⟨rfl, b1⟩
  cases y
  · have h1 := HEE.out
    simp at h1
    subst h1
    have h2 := HVV.out
    rw [if_neg (by decide)] at h2
    subst h2
    go_enter Try.func13, Try.ntmps13
    go_wp2_with fail
    refine (HX.out _ HA.out).mono ?_
    rintro e w1 ⟨rfl, b1⟩
    go_wp2_with fail
    refine (HY.out _ (HB.out.below b1)).mono ?_
    rintro e w2 ⟨rfl, b2⟩
    have hb2 := b1.trans (b2.mono b1.size)
    go_wp2
    go_ret2
    exact ⟨rfl, hb2⟩
  cases z
  · have h1 := HEE.out
    simp at h1
    subst h1
    have h2 := HVV.out
    rw [if_neg (by decide)] at h2
    subst h2
    go_enter Try.func13, Try.ntmps13
    go_wp2_with fail
    refine (HX.out _ HA.out).mono ?_
    rintro e w1 ⟨rfl, b1⟩
    go_wp2_with fail
    refine (HY.out _ (HB.out.below b1)).mono ?_
    rintro e w2 ⟨rfl, b2⟩
    have hb2 := b1.trans (b2.mono b1.size)
    go_wp2_with fail
    refine (within_e _ _ _ _).mono ?_
    rintro e w1 ⟨rfl, rfl⟩
    rw [HZ.out]
    go_wp2
    go_ret2
    exact ⟨rfl, hb2⟩
  · have h1 := HEE.out
    simp at h1
    subst h1
    have h2 := HVV.out
    rw [if_pos rfl] at h2
    subst h2
    have HAP1 := Lib.hid (HAP.out rfl)
    go_enter Try.func13, Try.ntmps13
    go_wp2_with fail
    refine (HX.out _ HA.out).mono ?_
    rintro e w1 ⟨rfl, b1⟩
    go_wp2_with fail
    refine (HY.out _ (HB.out.below b1)).mono ?_
    rintro e w2 ⟨rfl, b2⟩
    have hb2 := b1.trans (b2.mono b1.size)
    go_wp2_with fail
    refine (within_e _ _ _ _).mono ?_
    rintro e w1 ⟨rfl, rfl⟩
    rw [HZ.out]
    go_wp2_with fail
    refine (HAP1.out _ (HA.out.below hb2) (HB.out.below hb2)).mono ?_
    rintro e w3 ⟨rfl, b3⟩
    go_wp2
    go_ret2
    exact ⟨rfl, hb2.trans (b3.mono hb2.size)⟩
end Go.Proofs.Ytlikmlhlfbdchaa
/- nest, plain: being apart does not depend on the order, on moves and half turns; no corner of one of two lies strictly inside the other. -/
namespace Go.Proofs.Ytlikmlhlfbdchaa
open Geo
namespace Ne
theorem lo_uniq {d : XY} {l l' : List XY} (h0 : 0 < l.length) (h0' : 0 < l'.length) (h : ∀ p, p ∈ l' ↔ p ∈ l) : lo1 d l' = lo1 d l ∧ hi1 d l' = hi1 d l := by
  have key : ∀ {a b : List XY}, 0 < a.length → 0 < b.length → (∀ p, p ∈ b ↔ p ∈ a) → lo1 d a ≤ lo1 d b ∧ hi1 d b ≤ hi1 d a := by
    intro a b ha hb hm
    constructor
    · obtain ⟨k, hk, e⟩ := lo_is d hb
      obtain ⟨j, hj, e2⟩ := mem_X ((hm _).1 (X_mem hk))
      rw [e, ← e2]; exact lo_min d hj
    · obtain ⟨k, hk, e⟩ := hi_is d hb
      obtain ⟨j, hj, e2⟩ := mem_X ((hm _).1 (X_mem hk))
      rw [e, ← e2]; exact hi_max d hj
  have a := key h0 h0' h
  have b := key h0' h0 (fun p => (h p).symm)
  omega
theorem lo_canon {d : XY} {l : List XY} (h0 : 0 < l.length) : lo1 d (canon l) = lo1 d l ∧ hi1 d (canon l) = hi1 d l :=
  lo_uniq h0 (by rw [canon_length]; exact h0) (fun _ => mem_canon)
theorem lo_map {d t : XY} {l : List XY} (h0 : 0 < l.length) : lo1 d (l.map (addXY t)) = lo1 d l + dt d t ∧ hi1 d (l.map (addXY t)) = hi1 d l + dt d t := by
  have hl : (l.map (addXY t)).length = l.length := List.length_map ..
  have hX : ∀ k, k < l.length → dt d (X (l.map (addXY t)) k) = dt d (X l k) + dt d t := fun k hk => by
    rw [X_map _ hk]; unfold addXY dt; simp only; rw [Int.mul_add, Int.mul_add]; omega
  obtain ⟨i1, h1, e1⟩ := lo_is d h0
  obtain ⟨i2, h2, e2⟩ := hi_is d h0
  obtain ⟨j1, k1, f1⟩ := lo_is d (show 0 < (l.map (addXY t)).length by omega)
  obtain ⟨j2, k2, f2⟩ := hi_is d (show 0 < (l.map (addXY t)).length by omega)
  rw [hl] at k1 k2
  rw [hX _ k1] at f1
  rw [hX _ k2] at f2
  have a1 := lo_min d (show i1 < (l.map (addXY t)).length by omega)
  have a2 := hi_max d (show i2 < (l.map (addXY t)).length by omega)
  rw [hX _ h1] at a1
  rw [hX _ h2] at a2
  have b1 := lo_min d k1
  have b2 := hi_max d k2
  omega
theorem lo_neg {d : XY} {l : List XY} (h0 : 0 < l.length) : lo1 d (l.map negXY) = -hi1 d l ∧ hi1 d (l.map negXY) = -lo1 d l := by
  have hl : (l.map negXY).length = l.length := List.length_map ..
  have hX : ∀ k, k < l.length → dt d (X (l.map negXY) k) = -dt d (X l k) := fun k hk => by
    rw [X_map _ hk]; unfold negXY dt; simp only; rw [Int.mul_neg, Int.mul_neg]; omega
  obtain ⟨i1, h1, e1⟩ := lo_is d h0
  obtain ⟨i2, h2, e2⟩ := hi_is d h0
  obtain ⟨j1, k1, f1⟩ := lo_is d (show 0 < (l.map negXY).length by omega)
  obtain ⟨j2, k2, f2⟩ := hi_is d (show 0 < (l.map negXY).length by omega)
  rw [hl] at k1 k2
  rw [hX _ k1] at f1
  rw [hX _ k2] at f2
  have a1 := lo_min d (show i2 < (l.map negXY).length by omega)
  have a2 := hi_max d (show i1 < (l.map negXY).length by omega)
  rw [hX _ h2] at a1
  rw [hX _ h1] at a2
  have b1 := hi_max d k1
  have b2 := lo_min d k2
  omega
theorem lo_dneg {d : XY} {l : List XY} (_h0 : 0 < l.length) : lo1 (-d.1, -d.2) l = -hi1 d l ∧ hi1 (-d.1, -d.2) l = -lo1 d l := by
  constructor
  · have := hi_neg (-d.1, -d.2) l (l.length - 1)
    simp only [Int.neg_neg] at this
    unfold lo1 hi1
    have e : ((d.1, d.2) : XY) = d := rfl
    rw [e] at this
    omega
  · exact hi_neg d l (l.length - 1)
/-- far in a direction, whichever way round -/
theorem bes_dneg {o p : List XY} {g : Int} {d : XY} (h0 : 0 < o.length) (k0 : 0 < p.length) : bes o p g (-d.1, -d.2) = bes o p g d := by
  have a := lo_dneg (d := d) h0
  have b := lo_dneg (d := d) k0
  have e : btw o p (-d.1, -d.2) = btw o p d := by unfold btw; rw [a.1, a.2, b.1, b.2]; split <;> split <;> omega
  unfold bes farB
  rw [e]
  simp only [Int.neg_mul_neg]
theorem bes_comm (o p : List XY) (g : Int) (d : XY) : bes p o g d = bes o p g d := by unfold bes; rw [btw_comm]
def Side (l : List XY) (d : XY) : Prop := ∃ k, k < l.length ∧ d = sdir l k
theorem besAny_iff {o p l : List XY} {g : Int} : besAny o p g l l.length = true ↔ ∃ d, Side l d ∧ bes o p g d = true := by
  constructor
  · intro h
    rcases Classical.em (∃ k, k < l.length ∧ bes o p g (sdir l k) = true) with ⟨k, hk, e⟩ | hn
    · exact ⟨_, ⟨k, hk, rfl⟩, e⟩
    · rw [besAny_no (fun m hm => Bool.eq_false_iff.2 fun e => hn ⟨m, hm, e⟩)] at h; cases h
  · rintro ⟨d, ⟨k, hk, rfl⟩, e⟩
    exact besAny_yes hk e
theorem ap_iff {o p : List XY} {g : Int} : apB o p g = true ↔ bes o p g (1, 0) = true ∨ bes o p g (0, 1) = true ∨ (∃ d, Side o d ∧ bes o p g d = true) ∨ ∃ d, Side p d ∧ bes o p g d = true := by
  unfold apB
  rw [Bool.or_eq_true, Bool.or_eq_true, Bool.or_eq_true, besAny_iff, besAny_iff]
  constructor
  · rintro ((h | h) | (h | h))
    · exact .inl h
    · exact .inr (.inl h)
    · exact .inr (.inr (.inl h))
    · exact .inr (.inr (.inr h))
  · rintro (h | h | h | h)
    · exact .inl (.inl h)
    · exact .inl (.inr h)
    · exact .inr (.inl h)
    · exact .inr (.inr h)
theorem ap_comm (o p : List XY) (g : Int) : apB p o g = apB o p g := by
  apply Bool.eq_iff_iff.2
  rw [ap_iff, ap_iff]
  simp only [bes_comm o p]
  constructor
  · rintro (h | h | h | h)
    · exact .inl h
    · exact .inr (.inl h)
    · exact .inr (.inr (.inr h))
    · exact .inr (.inr (.inl h))
  · rintro (h | h | h | h)
    · exact .inl h
    · exact .inr (.inl h)
    · exact .inr (.inr (.inr h))
    · exact .inr (.inr (.inl h))
theorem sdir_At (l : List XY) {k : Nat} (hk : k < l.length) : sdir l k = ((At l (k + 1)).2 - (At l k).2, (At l k).1 - (At l (k + 1)).1) := by
  unfold sdir
  rw [At_lt l hk, At_X l (by omega) (k + 1)]
theorem side_at {l : List XY} (h0 : 0 < l.length) (i : Nat) : Side l ((At l (i + 1)).2 - (At l i).2, (At l i).1 - (At l (i + 1)).1) := by
  refine ⟨i % l.length, Nat.mod_lt _ h0, ?_⟩
  rw [sdir_At l (Nat.mod_lt _ h0), At_mod]
  rw [At_congr l (show (i % l.length + 1) % l.length = (i + 1) % l.length by rw [Nat.mod_add_mod])]
theorem side_canon {l : List XY} {d : XY} (h0 : 0 < l.length) : Side (canon l) d ↔ Side l d := by
  have hle := lowIdx_le l
  constructor
  · rintro ⟨k, hk, rfl⟩
    rw [sdir_At _ hk, canon_is, At_Rot hle h0, At_Rot hle h0]
    exact side_at h0 _
  · rintro ⟨k, hk, rfl⟩
    rw [sdir_At _ hk]
    have h1 : ∀ j, At l j = At (canon l) (j + (l.length - lowIdx l l.length)) := fun j => by
      rw [canon_is, At_Rot hle h0]
      apply At_congr
      rw [show lowIdx l l.length + (j + (l.length - lowIdx l l.length)) = j + l.length by omega, Nat.add_mod_right]
    rw [h1 k, h1 (k + 1), show k + 1 + (l.length - lowIdx l l.length) = k + (l.length - lowIdx l l.length) + 1 by omega]
    exact side_at (by rw [canon_length]; exact h0) _
theorem bes_canon {o p : List XY} {g : Int} {d : XY} (h0 : 0 < o.length) (k0 : 0 < p.length) : bes (canon o) (canon p) g d = bes o p g d := by
  have a := lo_canon (d := d) h0
  have b := lo_canon (d := d) k0
  unfold bes btw
  rw [a.1, a.2, b.1, b.2]
theorem ap_canon {o p : List XY} {g : Int} (h0 : 0 < o.length) (k0 : 0 < p.length) : apB (canon o) (canon p) g = apB o p g := by
  apply Bool.eq_iff_iff.2
  rw [ap_iff, ap_iff]
  simp only [bes_canon h0 k0, side_canon h0, side_canon k0]
theorem bes_map {o p : List XY} {g : Int} {d t : XY} (h0 : 0 < o.length) (k0 : 0 < p.length) : bes (o.map (addXY t)) (p.map (addXY t)) g d = bes o p g d := by
  have a := lo_map (d := d) (t := t) h0
  have b := lo_map (d := d) (t := t) k0
  have e : btw (o.map (addXY t)) (p.map (addXY t)) d = btw o p d := by unfold btw; rw [a.1, a.2, b.1, b.2]; split <;> split <;> omega
  unfold bes
  rw [e]
theorem side_map {l : List XY} {d t : XY} : Side (l.map (addXY t)) d ↔ Side l d := by
  constructor
  · rintro ⟨k, hk, rfl⟩
    rw [List.length_map] at hk
    exact ⟨k, hk, sdir_map hk⟩
  · rintro ⟨k, hk, rfl⟩
    exact ⟨k, by rw [List.length_map]; exact hk, (sdir_map hk).symm⟩
theorem ap_map {o p : List XY} {g : Int} {t : XY} (h0 : 0 < o.length) (k0 : 0 < p.length) : apB (o.map (addXY t)) (p.map (addXY t)) g = apB o p g := by
  apply Bool.eq_iff_iff.2
  rw [ap_iff, ap_iff]
  simp only [bes_map h0 k0, side_map]
theorem bes_neg {o p : List XY} {g : Int} {d : XY} (h0 : 0 < o.length) (k0 : 0 < p.length) : bes (o.map negXY) (p.map negXY) g d = bes o p g d := by
  have a := lo_neg (d := d) h0
  have b := lo_neg (d := d) k0
  have e : btw (o.map negXY) (p.map negXY) d = btw o p d := by unfold btw; rw [a.1, a.2, b.1, b.2]; split <;> split <;> omega
  unfold bes
  rw [e]
theorem sdir_neg {l : List XY} {k : Nat} (hk : k < l.length) : sdir (l.map negXY) k = (-(sdir l k).1, -(sdir l k).2) := by
  have h2 : (k + 1) % l.length < l.length := Nat.mod_lt _ (by omega)
  unfold sdir
  rw [List.length_map, X_map _ hk, X_map _ h2]
  unfold negXY
  ext <;> simp <;> omega
theorem sides_neg {o p l : List XY} {g : Int} (h0 : 0 < o.length) (k0 : 0 < p.length) : (∃ d, Side (l.map negXY) d ∧ bes o p g d = true) ↔ ∃ d, Side l d ∧ bes o p g d = true := by
  constructor
  · rintro ⟨d, ⟨k, hk, rfl⟩, e⟩
    rw [List.length_map] at hk
    rw [sdir_neg hk, bes_dneg h0 k0] at e
    exact ⟨_, ⟨k, hk, rfl⟩, e⟩
  · rintro ⟨d, ⟨k, hk, rfl⟩, e⟩
    refine ⟨_, ⟨k, by rw [List.length_map]; exact hk, rfl⟩, ?_⟩
    rw [sdir_neg hk, bes_dneg h0 k0]
    exact e
theorem ap_neg {o p : List XY} {g : Int} (h0 : 0 < o.length) (k0 : 0 < p.length) : apB (o.map negXY) (p.map negXY) g = apB o p g := by
  apply Bool.eq_iff_iff.2
  rw [ap_iff, ap_iff]
  simp only [bes_neg h0 k0, sides_neg h0 k0]
/-- a lesser gap -/
theorem ap_less {o p : List XY} {g h : Int} (hh : 0 ≤ h) (hg : h ≤ g) (ha : apB o p g = true) : apB o p h = true := by
  rw [ap_iff] at ha ⊢
  have key : ∀ d, bes o p g d = true → bes o p h d = true := fun d e => far_less hh hg e
  rcases ha with e | e | ⟨d, s, e⟩ | ⟨d, s, e⟩
  · exact .inl (key _ e)
  · exact .inr (.inl (key _ e))
  · exact .inr (.inr (.inl ⟨d, s, key _ e⟩))
  · exact .inr (.inr (.inr ⟨d, s, key _ e⟩))
theorem side_ne {l : List XY} (h : Valid l) {d : XY} (hs : Side l d) : ¬ (d.1 = 0 ∧ d.2 = 0) := by
  obtain ⟨k, hk, rfl⟩ := hs
  rintro ⟨h1, h2⟩
  have hk2 : (k + 1) % l.length < l.length := Nat.mod_lt _ (by omega)
  unfold sdir at h1 h2
  simp only at h1 h2
  have := h.dist k ((k + 1) % l.length) hk hk2 (by ext <;> omega)
  have h3 := h.1
  by_cases e : k + 1 = l.length
  · rw [e, Nat.mod_self] at this; omega
  · rw [Nat.mod_eq_of_lt (by omega)] at this; omega
theorem ap_dir {o p : List XY} {g : Int} (ho : Valid o) (hp : Valid p) (ha : apB o p g = true) : ∃ d : XY, ¬ (d.1 = 0 ∧ d.2 = 0) ∧ 0 ≤ btw o p d := by
  have key : ∀ d, bes o p g d = true → 0 ≤ btw o p d := fun d e => by
    unfold bes farB at e
    simp only [decide_eq_true_eq] at e
    exact e.1
  rcases ap_iff.1 ha with e | e | ⟨d, s, e⟩ | ⟨d, s, e⟩
  · exact ⟨_, by decide, key _ e⟩
  · exact ⟨_, by decide, key _ e⟩
  · exact ⟨d, side_ne ho s, key _ e⟩
  · exact ⟨d, side_ne hp s, key _ e⟩
/-- strictly inside -/
def Stb (p : List XY) (c : XY) : Prop := ∀ j, j < p.length → 0 < Cross (X p j) (X p ((j + 1) % p.length)) c
theorem sqd_pos {d : XY} (h : ¬ (d.1 = 0 ∧ d.2 = 0)) : 0 < d.1 * d.1 + d.2 * d.2 := by
  have a := sq_nn d.1
  have b := sq_nn d.2
  rcases Int.lt_or_le 0 (d.1 * d.1 + d.2 * d.2) with e | e
  · exact e
  · exfalso
    have h1 : d.1 * d.1 = 0 := by omega
    have h2 : d.2 * d.2 = 0 := by omega
    exact h ⟨by rcases Int.mul_eq_zero.1 h1 with h | h <;> exact h, by rcases Int.mul_eq_zero.1 h2 with h | h <;> exact h⟩
theorem cross_id (d a b c : XY) : (d.1 * (a.1 - c.1) + d.2 * (a.2 - c.2)) * (-d.2 * (b.1 - c.1) + d.1 * (b.2 - c.2)) - (-d.2 * (a.1 - c.1) + d.1 * (a.2 - c.2)) * (d.1 * (b.1 - c.1) + d.2 * (b.2 - c.2)) = (d.1 * d.1 + d.2 * d.2) * Cross a b c := by
  unfold Cross; grind
theorem stb_lt {p : List XY} {c d : XY} (h0 : 0 < p.length) (hd : ¬ (d.1 = 0 ∧ d.2 = 0)) (hs : Stb p c) : dt d c < hi1 d p := by
  rcases Int.lt_or_le (dt d c) (hi1 d p) with e | e
  · exact e
  · exfalso
    refine no_round (fun k => d.1 * ((At p k).1 - c.1) + d.2 * ((At p k).2 - c.2)) (fun k => -d.2 * ((At p k).1 - c.1) + d.1 * ((At p k).2 - c.2)) p.length h0 ?_ ?_ ?_
    · intro k
      have := hi_max d (show k % p.length < p.length from Nat.mod_lt _ h0)
      rw [← At_X p h0] at this
      unfold dt at this e
      rw [Int.mul_sub, Int.mul_sub]
      omega
    · intro k
      rw [cross_id]
      refine Int.mul_pos (sqd_pos hd) ?_
      have := hs (k % p.length) (Nat.mod_lt _ h0)
      rw [← At_X p h0, ← At_X p h0, At_congr p (show (k % p.length + 1) % p.length = (k + 1) % p.length by rw [Nat.mod_add_mod])] at this
      exact this
    · have := At_per p 0
      rw [Nat.zero_add] at this
      simp only [this, and_self]
theorem stb_gt {p : List XY} {c d : XY} (h0 : 0 < p.length) (hd : ¬ (d.1 = 0 ∧ d.2 = 0)) (hs : Stb p c) : lo1 d p < dt d c := by
  have := stb_lt (d := (-d.1, -d.2)) h0 (by simp only; omega) hs
  rw [(lo_dneg h0).2, dt_neg] at this
  omega
theorem no_stab {o p : List XY} {g : Int} (ho : Valid o) (hp : Valid p) (ha : apB o p g = true) {i : Nat} (hi : i < o.length) : ¬ Stb p (X o i) := fun hs => by
  obtain ⟨d, hd, hb⟩ := ap_dir ho hp ha
  have h3 := hp.1
  have a := stb_lt (by omega) hd hs
  have b := stb_gt (by omega) hd hs
  have a1 := lo_min d hi
  have a2 := hi_max d hi
  rcases (btw_far o p d).1 hb with e | e <;> omega
end Ne
end Go.Proofs.Ytlikmlhlfbdchaa
