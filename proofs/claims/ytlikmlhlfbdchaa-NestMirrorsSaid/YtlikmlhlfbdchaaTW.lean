/- Merged: T15 T16 T17 T18 T19 T20 T21 T22. -/
import Derived.Test.YtlikmlhlfbdchaaTZ
import Derived.Deep.RegionLaw
/- nest: layouts in a mirror, plain. -/
namespace Go.Proofs.Ytlikmlhlfbdchaa
open Go.RowKit Go.Shelf
set_option linter.unusedVariables false
namespace Ne
open Geo (XY)
/-- o' is o in a mirror at W, wherever its list begins -/
structure Mv (W : Int) (o o' : List XY) : Prop where
  pos : 0 < o.length
  pos' : 0 < o'.length
  mem : ∀ c : XY, c ∈ o' ↔ ((W - c.1, c.2) : XY) ∈ o
  side : ∀ d : XY, Side o' d ↔ Side o (-d.1, d.2)
theorem Mv.back {W : Int} {o o' : List XY} (h : Mv W o o') {c : XY} (hc : c ∈ o) : ((W - c.1, c.2) : XY) ∈ o' := by
  rw [h.mem]
  have : ((W - (W - c.1), c.2) : XY) = c := by ext <;> simp <;> omega
  simp only
  rw [this]; exact hc
theorem Mv.dt {W : Int} (d c : XY) : dt (-d.1, d.2) (W - c.1, c.2) = dt d c - d.1 * W := by unfold Ne.dt; simp only; grind
theorem Mv.lohi {W : Int} {o o' : List XY} (h : Mv W o o') (d : XY) : lo1 d o' = lo1 (-d.1, d.2) o + d.1 * W ∧ hi1 d o' = hi1 (-d.1, d.2) o + d.1 * W := by
  have fw : ∀ {k}, k < o'.length → ∃ j, j < o.length ∧ Ne.dt (-d.1, d.2) (Geo.X o j) = Ne.dt d (Geo.X o' k) - d.1 * W := fun {k} hk => by
    obtain ⟨j, hj, e⟩ := Geo.mem_X ((h.mem _).1 (Geo.X_mem hk))
    exact ⟨j, hj, by rw [e]; exact Mv.dt d _⟩
  have bw : ∀ {j}, j < o.length → ∃ k, k < o'.length ∧ Ne.dt (-d.1, d.2) (Geo.X o j) = Ne.dt d (Geo.X o' k) - d.1 * W := fun {j} hj => by
    obtain ⟨k, hk, e⟩ := Geo.mem_X (h.back (Geo.X_mem hj))
    refine ⟨k, hk, ?_⟩
    rw [e, ← Mv.dt (W := W) d]
    congr 1
    ext <;> simp <;> omega
  obtain ⟨k1, h1, e1⟩ := lo_is d h.pos'
  obtain ⟨k2, h2, e2⟩ := hi_is d h.pos'
  obtain ⟨j1, i1, f1⟩ := lo_is (-d.1, d.2) h.pos
  obtain ⟨j2, i2, f2⟩ := hi_is (-d.1, d.2) h.pos
  obtain ⟨a1, b1, c1⟩ := fw h1
  obtain ⟨a2, b2, c2⟩ := fw h2
  obtain ⟨a3, b3, c3⟩ := bw i1
  obtain ⟨a4, b4, c4⟩ := bw i2
  have m1 := lo_min (-d.1, d.2) b1
  have m2 := hi_max (-d.1, d.2) b2
  have m3 := lo_min d b3
  have m4 := hi_max d b4
  omega
theorem Mv.bes {W : Int} {o o' p p' : List XY} (h : Mv W o o') (k : Mv W p p') (g : Int) (d : XY) : Ne.bes o' p' g d = Ne.bes o p g (-d.1, d.2) := by
  have a := h.lohi d
  have b := k.lohi d
  have e : btw o' p' d = btw o p (-d.1, d.2) := by unfold btw; rw [a.1, a.2, b.1, b.2]; split <;> split <;> omega
  unfold Ne.bes farB
  rw [e]
  simp only [Int.neg_mul_neg]
theorem Mv.ap {W : Int} {o o' p p' : List XY} (h : Mv W o o') (k : Mv W p p') (g : Int) : apB o' p' g = apB o p g := by
  apply Bool.eq_iff_iff.2
  rw [ap_iff, ap_iff]
  have s : ∀ l l' : List XY, Mv W l l' → ((∃ d, Side l' d ∧ Ne.bes o' p' g d = true) ↔ ∃ d, Side l d ∧ Ne.bes o p g d = true) := fun l l' m => by
    constructor
    · rintro ⟨d, s, e⟩
      exact ⟨_, (m.side d).1 s, by rw [← h.bes k]; exact e⟩
    · rintro ⟨d, s, e⟩
      have ed : ((- -d.1, d.2) : XY) = d := by ext <;> simp
      refine ⟨(-d.1, d.2), (m.side _).2 (by simp only; rw [ed]; exact s), ?_⟩
      rw [h.bes k]
      simp only
      rw [ed]; exact e
  rw [s o o' h, s p p' k, h.bes k, h.bes k]
  have e1 : Ne.bes o p g (-(1 : Int), (0 : Int)) = Ne.bes o p g (1, 0) := by
    have := bes_dneg (g := g) (d := (1, 0)) h.pos k.pos
    simpa using this
  have e2 : ((-(0 : Int), (1 : Int)) : XY) = (0, 1) := by simp
  simp only
  rw [e1, e2]
theorem Mv.canon' {W : Int} {o o' : List XY} (h : Mv W o o') : Mv W o (Geo.canon o') :=
  ⟨h.pos, by rw [Geo.canon_length]; exact h.pos', fun c => by rw [Geo.mem_canon]; exact h.mem c, fun d => by rw [side_canon h.pos']; exact h.side d⟩
theorem Mv.canon {W : Int} {o o' : List XY} (h : Mv W o o') : Mv W (Geo.canon o) o' :=
  ⟨by rw [Geo.canon_length]; exact h.pos, h.pos', fun c => by rw [Geo.mem_canon]; exact h.mem c, fun d => by rw [side_canon h.pos]; exact h.side d⟩
theorem mem_neg {l : List XY} {c : XY} : c ∈ l.map negXY ↔ ((-c.1, -c.2) : XY) ∈ l := by
  rw [List.mem_map]
  constructor
  · rintro ⟨a, ha, rfl⟩; unfold negXY; simpa using ha
  · intro h; exact ⟨_, h, by unfold negXY; simp⟩
theorem side_neg {l : List XY} {d : XY} : Side (l.map negXY) d ↔ Side l (-d.1, -d.2) := by
  constructor
  · rintro ⟨k, hk, rfl⟩
    rw [List.length_map] at hk
    refine ⟨k, hk, ?_⟩
    rw [sdir_neg hk]; simp
  · rintro ⟨k, hk, e⟩
    refine ⟨k, by rw [List.length_map]; exact hk, ?_⟩
    rw [sdir_neg hk, ← e]; simp
theorem Mv.neg {o o' : List XY} (h : Mv 0 o o') : Mv 0 (o.map negXY) (o'.map negXY) := by
  refine ⟨by rw [List.length_map]; exact h.pos, by rw [List.length_map]; exact h.pos', fun c => ?_, fun d => ?_⟩
  · rw [mem_neg, mem_neg, h.mem]; simp
  · rw [side_neg, side_neg, h.side]
theorem mem_add {l : List XY} {t c : XY} : c ∈ l.map (addXY t) ↔ ((c.1 - t.1, c.2 - t.2) : XY) ∈ l := by
  rw [List.mem_map]
  constructor
  · rintro ⟨a, ha, rfl⟩; unfold addXY; simpa using ha
  · intro h; exact ⟨_, h, by unfold addXY; simp⟩
theorem Mv.shift {W x y : Int} {o o' : List XY} (h : Mv 0 o o') : Mv W (o.map (addXY (x, y))) (o'.map (addXY (W - x, y))) := by
  refine ⟨by rw [List.length_map]; exact h.pos, by rw [List.length_map]; exact h.pos', fun c => ?_, fun d => ?_⟩
  · rw [mem_add, mem_add, h.mem]
    simp only
    rw [show (0 : Int) - (c.1 - (W - x)) = W - c.1 - x by omega]
  · rw [side_map, side_map, h.side]
theorem mir_side {o : List XY} {k : Nat} (hk : k < o.length) : sdir (mirL o) k = (-(sdir o (if k + 1 < o.length then o.length - 2 - k else o.length - 1)).1, (sdir o (if k + 1 < o.length then o.length - 2 - k else o.length - 1)).2) := by
  unfold sdir
  rw [mirL_len, mirL_x o k hk]
  by_cases h : k + 1 < o.length
  · rw [if_pos h, Nat.mod_eq_of_lt h, mirL_x o (k + 1) h, Nat.mod_eq_of_lt (show o.length - 2 - k + 1 < o.length by omega), show o.length - 2 - k + 1 = o.length - 1 - k by omega, show o.length - 1 - (k + 1) = o.length - 2 - k by omega]
    unfold mirXY
    ext <;> simp <;> omega
  · rw [if_neg h, show k + 1 = o.length by omega, Nat.mod_self, mirL_x o 0 (by omega), show o.length - 1 + 1 = o.length by omega, Nat.mod_self, show o.length - 1 - k = 0 by omega, show o.length - 1 - 0 = o.length - 1 by omega]
    unfold mirXY
    ext <;> simp <;> omega
theorem Mv.mir {o : List XY} (h : 0 < o.length) : Mv 0 o (mirL o) := by
  refine ⟨h, by rw [mirL_len]; exact h, fun c => ?_, fun d => ?_⟩
  · unfold mirL
    rw [List.mem_reverse, List.mem_map]
    constructor
    · rintro ⟨a, ha, rfl⟩; unfold mirXY; simpa using ha
    · intro hc; exact ⟨_, hc, by unfold mirXY; ext <;> simp⟩
  · constructor
    · rintro ⟨k, hk, rfl⟩
      rw [mirL_len] at hk
      refine ⟨if k + 1 < o.length then o.length - 2 - k else o.length - 1, by split <;> omega, ?_⟩
      rw [mir_side hk]; simp only [Int.neg_neg]
    · rintro ⟨j, hj, e⟩
      refine ⟨if j + 1 < o.length then o.length - 2 - j else o.length - 1, by rw [mirL_len]; split <;> omega, ?_⟩
      rw [mir_side (by split <;> omega)]
      have ej : (if (if j + 1 < o.length then o.length - 2 - j else o.length - 1) + 1 < o.length then o.length - 2 - (if j + 1 < o.length then o.length - 2 - j else o.length - 1) else o.length - 1) = j := by
        split <;> split <;> omega
      rw [ej, ← e]; simp
/-- a fault, a part, a place, a board in the mirror of a board -/
def mrF (b : Bo) (f : Rc) : Rc := ⟨b.w - f.x - f.w, f.y, f.w, f.h⟩
def mrP (q : Pa) : Pa := ⟨Geo.canon (mirL q.o), q.t⟩
def mrL (b : Bo) (p : Pc) : Pc := ⟨p.p, b.w - p.x, p.y, p.t⟩
def mrB (b : Bo) : Bo := ⟨b.w, b.h, b.g, b.fs.map (mrF b)⟩
theorem side_crn {f : Rc} {d : XY} : Side (crn f) d ↔ d = (0, -f.w) ∨ d = (f.h, 0) ∨ d = (0, f.w) ∨ d = (-f.h, 0) := by
  have s0 : sdir (crn f) 0 = (0, -f.w) := by unfold sdir crn Geo.X; simp <;> omega
  have s1 : sdir (crn f) 1 = (f.h, 0) := by unfold sdir crn Geo.X; simp <;> omega
  have s2 : sdir (crn f) 2 = (0, f.w) := by unfold sdir crn Geo.X; simp <;> omega
  have s3 : sdir (crn f) 3 = (-f.h, 0) := by unfold sdir crn Geo.X; simp <;> omega
  constructor
  · rintro ⟨k, hk, rfl⟩
    rw [crn_len] at hk
    rcases (show k = 0 ∨ k = 1 ∨ k = 2 ∨ k = 3 by omega) with rfl | rfl | rfl | rfl
    · exact .inl s0
    · exact .inr (.inl s1)
    · exact .inr (.inr (.inl s2))
    · exact .inr (.inr (.inr s3))
  · rintro (rfl | rfl | rfl | rfl)
    · exact ⟨0, by rw [crn_len]; omega, s0.symm⟩
    · exact ⟨1, by rw [crn_len]; omega, s1.symm⟩
    · exact ⟨2, by rw [crn_len]; omega, s2.symm⟩
    · exact ⟨3, by rw [crn_len]; omega, s3.symm⟩
theorem Mv.crn (b : Bo) (f : Rc) : Mv b.w (crn f) (crn (mrF b f)) := by
  refine ⟨by rw [crn_len]; omega, by rw [crn_len]; omega, fun c => ?_, fun d => ?_⟩
  · obtain ⟨c1, c2⟩ := c
    unfold Ne.crn mrF
    simp only [List.mem_cons, List.not_mem_nil, or_false, Prod.mk.injEq]
    omega
  · obtain ⟨d1, d2⟩ := d
    rw [side_crn, side_crn]
    unfold mrF
    simp only [Prod.mk.injEq]
    omega
theorem getD_mapP {ps : List Pa} {i : Nat} (hi : i < ps.length) : (ps.map mrP).getD i za = mrP (ps.getD i za) := by
  rw [List.getD_eq_getElem?_getD, List.getD_eq_getElem?_getD, List.getElem?_map, List.getElem?_eq_getElem hi]; rfl
theorem getD_mapL {b : Bo} {pl : List Pc} {i : Nat} (hi : i < pl.length) : (pl.map (mrL b)).getD i zc = mrL b (pl.getD i zc) := by
  rw [List.getD_eq_getElem?_getD, List.getD_eq_getElem?_getD, List.getElem?_map, List.getElem?_eq_getElem hi]; rfl
theorem getD_mapF {b : Bo} {i : Nat} (hi : i < b.fs.length) : (mrB b).fs.getD i zr = mrF b (b.fs.getD i zr) := by
  show (b.fs.map (mrF b)).getD i zr = _
  rw [List.getD_eq_getElem?_getD, List.getD_eq_getElem?_getD, List.getElem?_map, List.getElem?_eq_getElem hi]; rfl
theorem Mv.lyg {b : Bo} {ps : List Pa} {p : Pc} (hv : vPa ps = true) (h : lsB ps p = true) : Mv b.w (lyg ps p) (lyg (ps.map mrP) (mrL b p)) := by
  obtain ⟨_, _, i, ei, hi⟩ := lsB_ok h
  have hval := valid_of (vPa_at hv (q := i) hi)
  have h0 : 0 < (ps.getD i za).o.length := by have := hval.1; omega
  unfold Ne.lyg
  show Mv b.w ((frm (ps.getD p.p.toNat za).o p.t).map _) ((frm ((ps.map mrP).getD p.p.toNat za).o p.t).map (addXY (b.w - p.x, p.y)))
  rw [ei, Int.toNat_natCast, getD_mapP hi]
  refine Mv.shift ?_
  unfold frm
  split
  · exact ((Mv.mir h0).canon'.neg).canon.canon'
  · exact (Mv.mir h0).canon'.canon.canon'
theorem vPs_all {l : List Pa} : ∀ n, (∀ k, k < n → validB (l.getD k za).o = true) → vPs l n = true
  | 0, _ => rfl
  | n + 1, h => by unfold vPs; rw [vPs_all n (fun k hk => h k (by omega)), h n (by omega)]; rfl
theorem vFs_all {b : Bo} : ∀ n, (∀ k, k < n → vF b (b.fs.getD k zr) = true) → vFs b n = true
  | 0, _ => rfl
  | n + 1, h => by unfold vFs; rw [vFs_all n (fun k hk => h k (by omega)), h n (by omega)]; rfl
theorem vPa_mir {ps : List Pa} (hv : vPa ps = true) : vPa (ps.map mrP) = true := by
  have h60 := vPa_len hv
  unfold vPa
  rw [List.length_map, decide_eq_true h60, Bool.true_and]
  refine vPs_all _ fun k hk => ?_
  rw [getD_mapP hk]
  exact validB_true (valid_of (vPa_at hv hk)).mir.canon
theorem vBo_mir {b : Bo} (hv : vBo b = true) : vBo (mrB b) = true := by
  obtain ⟨h1, h2, h3, h4, h5⟩ := vBo_in hv
  unfold vBo
  have hl : (mrB b).fs.length = b.fs.length := by show (b.fs.map _).length = _; rw [List.length_map]
  rw [hl]
  simp only [Bool.and_eq_true, decide_eq_true_eq]
  refine ⟨⟨⟨h1, h2⟩, h3⟩, h4, vFs_all _ fun k hk => ?_⟩
  rw [getD_mapF hk]
  have := h5 k hk
  unfold vF pc at this ⊢
  simp only [Bool.and_eq_true, decide_eq_true_eq] at this ⊢
  unfold mrF mrB
  simp only
  omega
theorem clK_at {b : Bo} {o : List XY} {n : Nat} (h : clK b o n = true) {j : Nat} (hj : j < n) : apB o (crn (b.fs.getD j zr)) 0 = true := by
  have := clK_mono (show j + 1 ≤ n by omega) h
  unfold clK at this
  simp only [Bool.and_eq_true] at this
  exact this.2
theorem clK_all {b : Bo} {o : List XY} : ∀ n, (∀ j, j < n → apB o (crn (b.fs.getD j zr)) 0 = true) → clK b o n = true
  | 0, _ => rfl
  | n + 1, h => by unfold clK; rw [clK_all n (fun j hj => h j (by omega)), h n (by omega)]; rfl
theorem place_bd {b : Bo} {ps : List Pa} {p : Pc} (hw : b.w ≤ 60000) (hv : vPa ps = true) (h : lsB ps p = true) (ho : onBb b (lyg ps p) = true) : -5000 ≤ p.x ∧ p.x ≤ 65000 := by
  obtain ⟨F, hF, eF, _⟩ := lyg_frm hv h
  have h3 := hF.1
  have h0 : 0 < (lyg ps p).length := by rw [eF, List.length_map]; omega
  have a := onBb_iff.1 ho 0 h0
  have c := hF.2.2.1 0 (by omega)
  rw [eF, Geo.X_map _ (by omega)] at a
  unfold addXY at a
  unfold Geo.In at c
  simp only at a
  omega
/-- A RIGHT LAYOUT IS RIGHT IN THE MIRROR -/
theorem RL.mir {b : Bo} {ps : List Pa} {pl : List Pc} (h : RL b ps pl) : RL (mrB b) (ps.map mrP) (pl.map (mrL b)) := by
  obtain ⟨hvb, hvp⟩ := vAll_and h.va
  have hvi := vBo_in hvb
  have hls : ∀ p ∈ pl, lsB ps p = true := fun p hp => rg_ls (h.rg p hp)
  have hM : ∀ q, q ∈ pl.map (mrL b) → ∃ p ∈ pl, mrL b p = q := fun q hq => List.mem_map.1 hq
  refine ⟨by unfold vAll; rw [vBo_mir hvb, vPa_mir hvp]; rfl, by rw [List.length_map]; exact h.len, ?_, ?_, ?_, ?_⟩
  · intro q hq
    obtain ⟨p, hp, rfl⟩ := hM q hq
    have bd := place_bd hvi.1.2 hvp (hls p hp) (h.on p hp)
    have hr := h.rg p hp
    obtain ⟨_, hy, i, ei, hi⟩ := lsB_ok (hls p hp)
    unfold rgB lsB ix at hr ⊢
    have e1 : (mrL b p).p = p.p := rfl
    have e2 : (mrL b p).t = p.t := rfl
    have e3 : (mrL b p).x = b.w - p.x := rfl
    have e4 : (mrL b p).y = p.y := rfl
    rw [e1, e2, e3, e4, List.length_map]
    rw [ei, Int.toNat_natCast] at hr ⊢
    rw [getD_mapP hi]
    have e5 : (mrP (ps.getD i za)).t = (ps.getD i za).t := rfl
    rw [e5]
    simp only [Bool.and_eq_true, decide_eq_true_eq] at hr ⊢
    exact ⟨⟨⟨hr.1.1.1, by omega⟩, hr.1.2⟩, hr.2⟩
  · intro q hq
    obtain ⟨p, hp, rfl⟩ := hM q hq
    have ho := onBb_iff.1 (h.on p hp)
    have mv := Mv.lyg (b := b) hvp (hls p hp)
    refine onBb_iff.2 fun k hk => ?_
    obtain ⟨j, hj, e⟩ := Geo.mem_X ((mv.mem _).1 (Geo.X_mem hk))
    have := ho j hj
    rw [e] at this
    simp only at this
    have e1 : (mrB b).w = b.w := rfl
    have e2 : (mrB b).h = b.h := rfl
    rw [e1, e2]
    omega
  · intro q hq
    obtain ⟨p, hp, rfl⟩ := hM q hq
    have hc := h.cl p hp
    unfold clB at hc ⊢
    have hl : (mrB b).fs.length = b.fs.length := by show (b.fs.map _).length = _; rw [List.length_map]
    rw [hl]
    refine clK_all _ fun j hj => ?_
    rw [getD_mapF hj, (Mv.lyg (b := b) hvp (hls p hp)).ap (Mv.crn b _)]
    exact clK_at hc hj
  · rw [List.pairwise_map]
    refine h.ap.imp_of_mem fun {p q} hp hq hpq => ?_
    rw [(Mv.lyg (b := b) hvp (hls p hp)).ap (Mv.lyg (b := b) hvp (hls q hq))]
    exact hpq
theorem arI_mir {b : Bo} {ps : List Pa} {p : Pc} (h : lsB ps p = true) : arI (ps.map mrP) (mrL b p) = arI ps p := by
  obtain ⟨_, _, i, ei, hi⟩ := lsB_ok h
  unfold arI
  have e1 : (mrL b p).p = p.p := rfl
  rw [e1, ei, Int.toNat_natCast, getD_mapP hi]
  show Geo.areaK (Geo.canon (mirL (ps.getD i za).o)) (Geo.canon (mirL (ps.getD i za).o)).length = _
  rw [area_canon, area_mir]
theorem wsK_mir {b : Bo} {ps : List Pa} {pl : List Pc} (h : ∀ p ∈ pl, lsB ps p = true) : ∀ k, k ≤ pl.length → wsK (mrB b) (ps.map mrP) (pl.map (mrL b)) k = wsK b ps pl k
  | 0, _ => rfl
  | k + 1, hk => by
    unfold wsK
    rw [wsK_mir h k (by omega), getD_mapL (by omega), arI_mir (h _ (getD_mem (by omega)))]
/-- the mirror of the mirror -/
theorem mrB_back (b : Bo) : mrB (mrB b) = b := by
  obtain ⟨w, h, g, fs⟩ := b
  unfold mrB
  simp only [Bo.mk.injEq, true_and, List.map_map]
  refine (List.map_congr_left fun f _ => ?_).trans (List.map_id fs)
  obtain ⟨x, y, fw, fh⟩ := f
  show (⟨w - (w - x - fw) - fw, y, fw, fh⟩ : Rc) = ⟨x, y, fw, fh⟩
  congr 1; omega
theorem mrL_back (b : Bo) (pl : List Pc) : (pl.map (mrL b)).map (mrL (mrB b)) = pl := by
  rw [List.map_map]
  refine (List.map_congr_left fun p _ => ?_).trans (List.map_id pl)
  obtain ⟨q, x, y, t⟩ := p
  show (⟨q, b.w - (b.w - x), y, t⟩ : Pc) = ⟨q, x, y, t⟩
  congr 1; omega
end Ne
end Go.Proofs.Ytlikmlhlfbdchaa
/- nest: Mirror of the document's outlines; mirrorPlaces. -/
namespace Go.Proofs.Ytlikmlhlfbdchaa
open Go.RowKit Go.Shelf
set_option linter.unusedVariables false
set_option maxRecDepth 100000 in
set_option maxHeartbeats 4000000 in
theorem rmirror_any (A : Option Addr) (l : List Geo.XY) (c : Nat) (w : World) (hP : Pts w A l) :
    Calls Try.prog 83 #[.slice A l.length c] w fun e w' => ListErr w (lstV l (mirL l)).1 (lstV l (mirL l)).2 e w' := by
  have HP := Lib.hid hP
  cases hv : validB l with
  | false =>
    have HV := Lib.hid hv
    rw [lstV_no hv]
    clear hv hP
    unfold ListErr
    go_enter Try.func83, Try.ntmps83
    go_wp2_with (go_at_call 51; refine (rvalid_b _ _ _ _ HP.out false HV.out).mono ?_; rintro e w' ⟨rfl, hb'⟩)
    go_ret2
    exact ⟨_, rfl, own_nil' _ _, hb'⟩
  | true =>
    have HV := Lib.hid hv
    have hval := valid_of hv
    have h3 := hval.1
    have h64 := hval.2.1
    have HIN := Lib.hid hval.allin
    rw [lstV_ok hv]
    clear hv hval
    unfold ListErr
    obtain ⟨b, off, rfl, hb, hc⟩ := pts_open hP (by omega)
    have HC := Lib.hid hc
    clear hc hP
    obtain ⟨i0, hi, hz0, hz1, hz2⟩ := info_parts info38'
    go_enter Try.func83, Try.ntmps83
    go_wp2_with fail
    refine (rvalid_b _ _ _ _ HP.out true HV.out).mono ?_
    rintro e w1 ⟨rfl, hb1⟩
    go_wp2
    go_loopw [4, 5] (fun v i wr => ∃ k : Nat, k ≤ l.length ∧ i = .int .i64 ((l.length : Int) - 1 - k) ∧ wr.ownsRow w.heap.size 76 2 v k (flat ((mirL l).take k)) ∧ Below w.heap.size w wr) (fun _ i _ => ((intOf i) + 1).toNat)
    case atStart => exact ⟨0, Nat.zero_le _, by simp, World.ownsRow_nil _ _ _ _, hb1⟩
    case round =>
      clear hb1
      obtain ⟨k, hk, rfl, hown, hB⟩ := hrel
      by_cases hlt : k < l.length
      · obtain ⟨m, hm⟩ : ∃ m, m = l.length - 1 - k := ⟨_, rfl⟩
        have hmi : (l.length : Int) - 1 - (k : Int) = (m : Int) := by omega
        have hml : m < l.length := by omega
        have HM : Hid ((mirL l).take (k + 1) = (mirL l).take k ++ [mirXY (Geo.X l m)]) := Lib.hid (by rw [take_x (mirL l) k (by rw [mirL_len]; exact hlt), mirL_x l k hlt, ← hm])
        have HMM := Lib.hid hm
        rw [hmi]
        clear hm hmi
        have c1 : wr.cell? ⟨b, off + m * 2, none⟩ = some (.int .i64 (Geo.X l m).1) := (hB.cell (p := ⟨b, off + m * 2, none⟩) hb).trans (HC.out m hml).1
        have c2 : wr.cell? ⟨b, off + m * 2 + 1, none⟩ = some (.int .i64 (Geo.X l m).2) := (hB.cell (p := ⟨b, off + m * 2 + 1, none⟩) hb).trans (HC.out m hml).2
        obtain ⟨a1, a2, a3, a4⟩ := in_all HIN.out m
        have hbl : b < wr.heap.size := Nat.lt_of_lt_of_le hb hB.size
        go_wp2
        have e1 : IntKind.i64.wrap (-(Geo.X l m).1) = -(Geo.X l m).1 := IntWalk.i64_in _ (by omega)
        go_region_law (refine step_append_own' rfl (.tmp 16) (.tmp 29) 22 rfl w.heap.size 76 i0 _ 2 16 Try.underlying22 hi hz0 hz1 hz2 rfl (by decide) u4 k _ rfl (hown.alloc _).drew ⟨wr.heap.size, 0, none⟩ 1 1 [.int .i64 (-(Geo.X l m).1), .int .i64 (Geo.X l m).2] rfl rfl (new_cells wr _ _) (one_two _ _) (by clear e1; unfold maxLen; omega) (by clear e1; omega) (by clear e1; have := hB.size; simp; omega) ?_; intro v' w2 hown' hgrow)
        all_goals (
          have hB' : Below w.heap.size w w2 := ((hB.alloc hB.size _).drew).grown hgrow (by have := hB.size; clear e1; simp; omega) (fun k e => (hown.lt k e).1)
          clear hown hgrow e1
          go_wp2
          go_roundw
          case rel => exact ⟨k + 1, by omega, by have := HMM.out; congr 1; omega, by rw [HM.out, flat_append]; exact hown', hB'⟩
          case measure => simp [intOf])
      · obtain rfl : k = l.length := by omega
        have e := List.take_length (l := mirL l)
        rw [mirL_len] at e
        rw [e, ← mirL_len l] at hown
        obtain ⟨A1, c1, rfl, hp1, hc1⟩ := pts_of_owns' hown
        clear hown e
        rw [mirL_len] at hc1 ⊢
        go_wp2_with fail
        refine (rcanon_r A1 (mirL l) l.length c1 (mirL_len l) (by omega) h64 hc1 wr hp1).mono ?_
        rintro e w2 ⟨v, rfl, hown3, hb2⟩
        go_wp2
        go_ret2
        exact ⟨_, rfl, hown3.mono hB.size, hB.trans (hb2.mono hB.size)⟩

theorem new_pc (w : World) (p : Ne.Pc) : ∀ j u, (Ne.pcL p)[j]? = some u → (w.alloc (.cells (Ne.pcL p).toArray 40)).cell? ((⟨w.heap.size, 0, none⟩ : Addr).add j) = some u := fun j u hj => by
  rw [Go.WideShapes.add_plain]
  have := (Blk.new w 40 (Ne.pcL p).toArray).cell (0 + j)
  rw [this, Nat.zero_add]
  simpa using hj
set_option maxRecDepth 100000 in
set_option maxHeartbeats 4000000 in
theorem mirplaces_b (b : Ne.Bo) (A C : Option Addr) (f fc n c : Nat) (pl : List Ne.Pc) (hn : pl.length = n) (hn2 : n ≤ 200) (hw : 1 ≤ b.w ∧ b.w ≤ 60000) (hx : ∀ j, j < n → -120000 ≤ (pl.getD j Ne.zc).x ∧ (pl.getD j Ne.zc).x ≤ 120000)
    (w : World) (hL : Rows Ne.pcL 4 w C pl) :
    Calls Try.prog 82 #[.agg (boW b A f fc), .slice C n c] w fun e w' => ∃ v, e = .returned v ∧ w'.ownsRow w.heap.size 40 4 v n (flt Ne.pcL (pl.map (Ne.mrL b))) ∧ Below w.heap.size w w' := by
  have hB := (Below.refl w.heap.size w).alloc (Nat.le_refl _) (.cells (boW b A f fc) 33)
  have bB := Blk.new w 33 (boW b A f fc)
  have HL := Lib.hid (hL.below hB)
  have HN := Lib.hid hn
  have HX := Lib.hid hx
  obtain ⟨w1, w2⟩ := hw
  obtain ⟨i0, hi0, hz0, hn0, hy0⟩ := info_parts infoPc3
  clear hL hn hx
  go_enter Try.func82, Try.ntmps82
  go_wp2
  have hsz : (w.alloc (.cells (boW b A f fc) 33)).heap.size = w.heap.size + 1 := World.size_alloc _ _
  generalize w.alloc (.cells (boW b A f fc) 33) = W0 at *
  go_loopw [5, 10] (fun v i wr => ∃ k : Nat, k ≤ n ∧ i = .int .i64 k ∧ wr.ownsRow W0.heap.size 40 4 v k (flt Ne.pcL ((pl.take k).map (Ne.mrL b))) ∧ Below W0.heap.size W0 wr) (fun _ i _ => n - (intOf i).toNat)
  case atStart => exact ⟨0, Nat.zero_le _, rfl, World.ownsRow_nil _ _ _ _, Below.refl _ _⟩
  case round =>
    obtain ⟨k, hk, rfl, hO, hb⟩ := hrel
    by_cases hlt : k < n
    · obtain ⟨gq, oq, hCe, hg, hc⟩ := (HL.out.below hb).at (z := Ne.zc) (by rw [HN.out]; omega)
      subst hCe
      have hck := hc k (by rw [HN.out]; exact hlt)
      have hxk := HX.out k hlt
      have HT : Hid ((pl.take (k + 1)).map (Ne.mrL b) = (pl.take k).map (Ne.mrL b) ++ [Ne.mrL b (pl.getD k Ne.zc)]) := Lib.hid (by
        rw [List.take_add_one, List.getElem?_eq_getElem (by rw [HN.out]; exact hlt), Ne.getD_lt (by rw [HN.out]; exact hlt), List.map_append]; rfl)
      obtain ⟨p, hp⟩ : ∃ p, pl.getD k Ne.zc = p := ⟨_, rfl⟩
      rw [hp] at hck hxk HT
      obtain ⟨pp, px, py, pt⟩ := p
      dsimp only at hxk
      obtain ⟨x1, x2⟩ := hxk
      have hwr : IntKind.i64.wrap (b.w - px) = b.w - px := IntWalk.i64_in _ (by omega)
      have bB1 := bB.below hb (by rw [hsz]; omega)
      have p0 : (wr.alloc (.cells #[.int .i64 pp, .int .i64 px, .int .i64 py, .bool pt] 40)).cell? ⟨w.heap.size, 0, none⟩ = some (.int .i64 b.w) := ((bB1.alloc _).cell 0).trans rfl
      have hO2 := hO.alloc (.cells #[.int .i64 pp, .int .i64 (b.w - px), .int .i64 py, .bool pt] 40)
      have hb2 := hb.alloc hb.size (.cells #[.int .i64 pp, .int .i64 (b.w - px), .int .i64 py, .bool pt] 40)
      have bN := Blk.new wr 40 #[.int .i64 pp, .int .i64 (b.w - px), .int .i64 py, .bool pt]
      have rN : (wr.alloc (.cells #[.int .i64 pp, .int .i64 (b.w - px), .int .i64 py, .bool pt] 40)).rangeAt wr.heap.size 0 (Ne.pcL ⟨pp, b.w - px, py, pt⟩) := bN.range
      have hlm : (k : Int) < (n : Int) := by omega
      clear hc hp hO
      go_wp2_with (first | refine ldm_pc hck (by rfl) _ rfl rfl ?_ | refine ldm_pc rN (by rfl) _ rfl rfl (Hid.out ?_))
      refine Lib.hid ?_
      have HO3 := Lib.hid (hO2.alloc (.cells (Ne.pcL ⟨pp, b.w - px, py, pt⟩).toArray 40))
      have hlt3 := hO2.lt
      have hszr := hb.size
      generalize hwf : wr.alloc (.cells #[.int .i64 pp, .int .i64 (b.w - px), .int .i64 py, .bool pt] 40) = wf at *
      have hb3 := hb2.alloc hb2.size (.cells (Ne.pcL ⟨pp, b.w - px, py, pt⟩).toArray 40)
      have HB3 := Lib.hid hb3
      clear hO2 hck p0 rN bN hwr hwf
      go_wp2_with (at_builtin; refine wpList_append_own _ rfl _ _ 35 rfl W0.heap.size 40 i0 _ 4 32 Try.underlying35 hi0 hz0 hn0 hy0 rfl (by decide) _ _ _ rfl HO3.out ⟨wf.heap.size, 0, none⟩ 1 1 (Ne.pcL ⟨pp, b.w - px, py, pt⟩) rfl rfl (new_pc wf ⟨pp, b.w - px, py, pt⟩) (Ne.encPc.one _) (by unfold maxLen; omega) (by omega) HB3.out.size ?_; intro v9 w9 hown9 hgrow9 _)
      have hb9 := HB3.out.grown hgrow9 HB3.out.size (fun s e => (HO3.out.lt s e).1)
      have HO9 : Hid (w9.ownsRow W0.heap.size 40 4 v9 (k + 1) (flt Ne.pcL ((pl.take (k + 1)).map (Ne.mrL b)))) := Lib.hid (by rw [HT.out, flt_append, flt_one]; exact hown9)
      clear hown9 hgrow9
      go_wp2
      go_roundw
      case rel => exact ⟨k + 1, by omega, by go_num, HO9.out, hb9⟩
      case measure => simp [intOf]; omega
    · obtain rfl : n = k := by omega
      rw [List.take_of_length_le (by rw [HN.out]; exact Nat.le_refl _)] at hO
      have HO := Lib.hid (hO.mono hB.size)
      go_wp2
      go_ret
      exact ⟨_, rfl, HO.out, hB.trans (hb.mono hB.size)⟩
end Go.Proofs.Ytlikmlhlfbdchaa
/- nest: mirrorBoard. -/
namespace Go.Proofs.Ytlikmlhlfbdchaa
open Go.RowKit Go.Shelf
set_option linter.unusedVariables false
theorem own_onlyE {g B n k : Nat} {t : TypeId} {w w' : World} (h : Only g w w') {v : Value} {xs : List Value} (ho : w.ownsRow B t k v n xs) (hn : v.ownBlock ≠ some g) : w'.ownsRow B t k v n xs :=
  ho.kept (row := some g) ⟨h.os, h.tape, h.output, by rw [h.size]; exact Nat.le_refl _, fun k _ hk => h.block k (fun e => hk (by rw [e]))⟩ (.inr hn)
theorem blk_grown {w w' : World} {g : Nat} {t : TypeId} {cs : Array Value} {r : Option Nat} (h : Blk w g t cs) (hg : w.grownBy w' r) (hn : r ≠ some g) : Blk w' g t cs := by
  have hlt := Blk.lt h
  obtain ⟨_, _, _, _, g5⟩ := hg
  have := g5 g hlt (fun e => hn e.symm)
  unfold Blk at h ⊢; rw [this]; exact h
theorem new_rc (w : World) (p : Ne.Rc) : ∀ j u, (Ne.rcL p)[j]? = some u → (w.alloc (.cells (Ne.rcL p).toArray 44)).cell? ((⟨w.heap.size, 0, none⟩ : Addr).add j) = some u := fun j u hj => by
  rw [Go.WideShapes.add_plain]
  have := (Blk.new w 44 (Ne.rcL p).toArray).cell (0 + j)
  rw [this, Nat.zero_add]
  simpa using hj
theorem infoRc3 : (Try.prog.info? 44).map (fun i => (i.zero, i.size, i.bytes)) = some (some (.agg #[.int .i64 0, .int .i64 0, .int .i64 0, .int .i64 0]), 4, 32) := by kernel_rfl
theorem infoBo' : (Try.prog.info? 33).map (·.size) = some 4 := by kernel_rfl
section
variable {ops : Array Oper} {rest : List Oper} {o : Oper} {a : Act} {w : World} {Q : Exit → Act → World → Prop}
/-- a whole board is stored -/
theorem st_bo {old : Array Value} {k : Ne.Bo} {A : Option Addr} {n c : Nat} {g : Nat} {t : TypeId} (b : Blk w g t old) (hs : old.size = 4) (hgd : o.guard = none) (x y : Operand) (ho : o.op = .store 33 x y)
    (hx : a.eval x = .pointer (some ⟨g, 0, none⟩)) (hy : a.eval y = .agg (boW k A n c))
    (h : ∀ w', Blk w' g t (boW k A n c) → Only g w w' → wpList Try.prog ops Q rest (a.put o.dst undef) w') : wpList Try.prog ops Q (o :: rest) a w :=
  wpList_store_row hgd 33 x y ho g (boW k A n c) hx hy t old b infoBo' hs (by simp [Value.oneCell']) (h _ (blk_setRow' b) (Only.setRow g w (boW k A n c)))
end
theorem rows_only {α : Type} {enc : α → List Value} {k : Nat} {W W' : World} {A : Option Addr} {l : List α} {g0 : Nat} (h : Rows enc k W A l) (hg : Only g0 W W') (hne : ∀ g off, A = some ⟨g, off, none⟩ → g ≠ g0) : Rows enc k W' A l := by
  rcases h with h | ⟨b, off, h1, h2, h3⟩
  · exact .inl h
  · have hb := hg.block b (hne b off h1)
    refine .inr ⟨b, off, h1, by rw [hg.size]; exact h2, fun i hi j v hv => ?_⟩
    have := h3 i hi j v hv
    unfold World.cell? at this ⊢
    simp only at this ⊢
    rw [hb]; exact this
namespace Ne
theorem fault_bd {b : Bo} (hv : vBo b = true) {j : Nat} (hj : j < b.fs.length) : (0 ≤ (b.fs.getD j zr).x ∧ (b.fs.getD j zr).x ≤ 60000) ∧ (1 ≤ (b.fs.getD j zr).w ∧ (b.fs.getD j zr).w ≤ 60000) := by
  obtain ⟨h1, h2, h3, h4, h5⟩ := vBo_in hv
  have := h5 j hj
  unfold vF pc at this
  simp only [Bool.and_eq_true, decide_eq_true_eq] at this
  omega
theorem take_mapF {b : Bo} {k : Nat} (hk : k < b.fs.length) : (b.fs.take (k + 1)).map (mrF b) = (b.fs.take k).map (mrF b) ++ [mrF b (b.fs.getD k zr)] := by
  rw [List.take_add_one, List.getElem?_eq_getElem hk, List.map_append]
  have : b.fs.getD k zr = b.fs[k] := by rw [List.getD_eq_getElem?_getD, List.getElem?_eq_getElem hk]; rfl
  rw [this]; rfl
end Ne
set_option maxRecDepth 100000 in
set_option maxHeartbeats 4000000 in
theorem mirboard_b (b : Ne.Bo) (A : Option Addr) (n c : Nat) (hn : b.fs.length = n) (hv : Ne.vBo b = true)
    (w : World) (hF : Rows Ne.rcL 4 w A b.fs) :
    Calls Try.prog 80 #[.agg (boW b A n c)] w fun e w' => ∃ A1 c1, e = .returned (.agg (boW (Ne.mrB b) A1 n c1)) ∧ Rows Ne.rcL 4 w' A1 (Ne.mrB b).fs ∧ n ≤ c1 ∧ (∀ g off, A1 = some ⟨g, off, none⟩ → w.heap.size ≤ g) ∧ Below w.heap.size w w' := by
  have hB1 := (Below.refl w.heap.size w).alloc (Nat.le_refl _) (.cells (boW b A n c) 33)
  have hB2 := hB1.alloc hB1.size (.cells #[.int .i64 0, .int .i64 0, .int .i64 0, .slice none 0 0] 33)
  have hB3 := hB2.alloc hB2.size (.cells (boW b none 0 0) 33)
  have bB := ((Blk.new w 33 (boW b A n c)).alloc (.cells #[.int .i64 0, .int .i64 0, .int .i64 0, .slice none 0 0] 33)).alloc (.cells (boW b none 0 0) 33)
  have bR := (Blk.new (w.alloc (.cells (boW b A n c) 33)) 33 #[.int .i64 0, .int .i64 0, .int .i64 0, .slice none 0 0]).alloc (.cells (boW b none 0 0) 33)
  have bM := Blk.new ((w.alloc (.cells (boW b A n c) 33)).alloc (.cells #[.int .i64 0, .int .i64 0, .int .i64 0, .slice none 0 0] 33)) 33 (boW b none 0 0)
  rw [World.size_alloc] at bR bM
  rw [World.size_alloc] at bM
  have hsz : (((w.alloc (.cells (boW b A n c) 33)).alloc (.cells #[.int .i64 0, .int .i64 0, .int .i64 0, .slice none 0 0] 33)).alloc (.cells (boW b none 0 0) 33)).heap.size = w.heap.size + 1 + 1 + 1 := by simp
  have hvi := Ne.vBo_in hv
  obtain ⟨⟨w1, w2⟩, _, _, h10, _⟩ := hvi
  have HFB := Lib.hid (fun k (hk : k < n) => Ne.fault_bd hv (j := k) (by omega))
  have HTK := Lib.hid (fun k (hk : k < n) => Ne.take_mapF (b := b) (k := k) (by omega))
  have HF := Lib.hid hF
  have HN := Lib.hid hn
  have h10' : n ≤ 10 := by omega
  obtain ⟨i0, hi0, hz0, hn0, hy0⟩ := info_parts infoRc3
  have p0 := bB.cell 0
  have p1 := bB.cell 1
  have p2 := bB.cell 2
  have p3 := bB.cell 3
  simp only [List.getElem?_toArray, List.getElem?_cons_zero, List.getElem?_cons_succ] at p0 p1 p2 p3
  clear hF hn hv hB1 hB2 h10
  go_enter Try.func80, Try.ntmps80
  go_wp2
  clear p0 p1 p2 p3
  go_loopw [16] (fun i wr => ∃ (k : Nat) (va : Option Addr) (vc : Nat), k ≤ n ∧ i = .int .i64 k ∧ Blk wr w.heap.size 33 (boW b A n c) ∧ Blk wr (w.heap.size + 1) 33 #[.int .i64 0, .int .i64 0, .int .i64 0, .slice none 0 0] ∧ Blk wr (w.heap.size + 1 + 1) 33 (boW b va k vc) ∧ wr.ownsRow (w.heap.size + 1 + 1 + 1) 44 4 (.slice va k vc) k (flt Ne.rcL ((b.fs.take k).map (Ne.mrF b))) ∧ Below w.heap.size w wr ∧ w.heap.size + 1 + 1 + 1 ≤ wr.heap.size) (fun i _ => n - (intOf i).toNat)
  case atStart => exact ⟨0, none, 0, Nat.zero_le _, rfl, bB, bR, bM, World.ownsRow_nil _ _ _ _, hB3, by rw [hsz]; exact Nat.le_refl _⟩
  case round =>
    clear bB bR bM hB3 hsz
    obtain ⟨k, va, vc, hk, rfl, bB, bR, bM, hO, hb, hszr⟩ := hrel
    by_cases hlt : k < n
    · obtain ⟨gq, oq, hCe, hg, hc⟩ := (HF.out.below hb).at (z := Ne.zr) (by rw [HN.out]; omega)
      subst hCe
      have hck := hc k (by rw [HN.out]; exact hlt)
      have hbd := HFB.out k hlt
      have HT := Lib.hid (HTK.out k hlt)
      obtain ⟨p, hp⟩ : ∃ p, b.fs.getD k Ne.zr = p := ⟨_, rfl⟩
      rw [hp] at hck hbd HT
      obtain ⟨px, py, pw, ph⟩ := p
      dsimp only at hbd
      obtain ⟨⟨x1, x2⟩, x3, x4⟩ := hbd
      have hwr1 : IntKind.i64.wrap (b.w - px) = b.w - px := IntWalk.i64_in _ (by omega)
      have hwr2 : IntKind.i64.wrap (b.w - px - pw) = b.w - px - pw := IntWalk.i64_in _ (by omega)
      have p0 : (wr.alloc (.cells #[.int .i64 px, .int .i64 py, .int .i64 pw, .int .i64 ph] 44)).cell? ⟨w.heap.size, 0, none⟩ = some (.int .i64 b.w) := ((bB.alloc _).cell 0).trans rfl
      have p3 := ((bM.alloc (.cells #[.int .i64 (b.w - px - pw), .int .i64 py, .int .i64 pw, .int .i64 ph] 44)).cell 3)
      simp only [List.getElem?_toArray, List.getElem?_cons_zero, List.getElem?_cons_succ] at p3
      have hO2 := hO.alloc (.cells #[.int .i64 (b.w - px - pw), .int .i64 py, .int .i64 pw, .int .i64 ph] 44)
      have hb2 := hb.alloc hb.size (.cells #[.int .i64 (b.w - px - pw), .int .i64 py, .int .i64 pw, .int .i64 ph] 44)
      have bB2 := bB.alloc (.cells #[.int .i64 (b.w - px - pw), .int .i64 py, .int .i64 pw, .int .i64 ph] 44)
      have bR2 := bR.alloc (.cells #[.int .i64 (b.w - px - pw), .int .i64 py, .int .i64 pw, .int .i64 ph] 44)
      have bM2 := bM.alloc (.cells #[.int .i64 (b.w - px - pw), .int .i64 py, .int .i64 pw, .int .i64 ph] 44)
      have rN : (wr.alloc (.cells #[.int .i64 (b.w - px - pw), .int .i64 py, .int .i64 pw, .int .i64 ph] 44)).rangeAt wr.heap.size 0 (Ne.rcL ⟨b.w - px - pw, py, pw, ph⟩) := (Blk.new wr 44 #[.int .i64 (b.w - px - pw), .int .i64 py, .int .i64 pw, .int .i64 ph]).range
      have hszf : (wr.alloc (.cells #[.int .i64 (b.w - px - pw), .int .i64 py, .int .i64 pw, .int .i64 ph] 44)).heap.size = wr.heap.size + 1 := World.size_alloc _ _
      have hlm : (k : Int) < (n : Int) := by omega
      clear hc hp hO bB bR bM hb
      go_wp2_with (first | refine ldm_rc hck (by rfl) _ rfl rfl ?_ | refine ldm_rc rN (by rfl) _ rfl rfl (Hid.out ?_))
      refine Lib.hid ?_
      have HLT := Lib.hid hO2.lt
      have HO3 := Lib.hid (hO2.alloc (.cells (Ne.rcL ⟨b.w - px - pw, py, pw, ph⟩).toArray 44))
      generalize hwf : wr.alloc (.cells #[.int .i64 (b.w - px - pw), .int .i64 py, .int .i64 pw, .int .i64 ph] 44) = wf at *
      have HB3 := Lib.hid (hb2.alloc hb2.size (.cells (Ne.rcL ⟨b.w - px - pw, py, pw, ph⟩).toArray 44))
      have HBB := Lib.hid (bB2.alloc (.cells (Ne.rcL ⟨b.w - px - pw, py, pw, ph⟩).toArray 44))
      have HBR := Lib.hid (bR2.alloc (.cells (Ne.rcL ⟨b.w - px - pw, py, pw, ph⟩).toArray 44))
      have HBM := Lib.hid (bM2.alloc (.cells (Ne.rcL ⟨b.w - px - pw, py, pw, ph⟩).toArray 44))
      have HSZ : Hid (w.heap.size + 1 + 1 + 1 ≤ (wf.alloc (.cells (Ne.rcL ⟨b.w - px - pw, py, pw, ph⟩).toArray 44)).heap.size) := Lib.hid (by rw [World.size_alloc]; omega)
      clear hO2 hck p0 rN hwr1 hwr2 hwf hszf bB2 bR2 bM2 hb2
      go_wp2_with (at_builtin; refine wpList_append_own _ rfl _ _ 31 rfl (w.heap.size + 1 + 1 + 1) 44 i0 _ 4 32 Try.underlying31 hi0 hz0 hn0 hy0 rfl (by decide) _ _ _ rfl HO3.out ⟨wf.heap.size, 0, none⟩ 1 1 (Ne.rcL ⟨b.w - px - pw, py, pw, ph⟩) rfl rfl (new_rc wf ⟨b.w - px - pw, py, pw, ph⟩) (Ne.encRc.one _) (by unfold maxLen; omega) (by omega) HSZ.out ?_; intro v9 w9 hown9 hgrow9 hfx9; obtain ⟨va9, vc9, rfl⟩ := own_slice hown9; have hne9 : (Value.slice va k vc).ownBlock ≠ some (w.heap.size + 1 + 1) := fun e => by { have := (HLT.out _ e).1; omega }; have bM9 := blk_grown HBM.out hgrow9 hne9; have m9 := bM9.cell 3; have f9 := bM9.frozen 3; simp only [List.getElem?_toArray, List.getElem?_cons_zero, List.getElem?_cons_succ] at m9)
      have hneB : (Value.slice va k vc).ownBlock ≠ some w.heap.size := fun e => by have := (HLT.out _ e).1; omega
      have hneR : (Value.slice va k vc).ownBlock ≠ some (w.heap.size + 1) := fun e => by have := (HLT.out _ e).1; omega
      have bB9 := (blk_grown HBB.out hgrow9 hneB).far (p := ⟨w.heap.size + 1 + 1, 3, none⟩) (by show w.heap.size ≠ w.heap.size + 1 + 1; omega) (.slice va9 (k + 1) vc9)
      have bR9 := (blk_grown HBR.out hgrow9 hneR).far (p := ⟨w.heap.size + 1 + 1, 3, none⟩) (by show w.heap.size + 1 ≠ w.heap.size + 1 + 1; omega) (.slice va9 (k + 1) vc9)
      have bM8 : Blk (w9.setCell ⟨w.heap.size + 1 + 1, 3, none⟩ (.slice va9 (k + 1) vc9)) (w.heap.size + 1 + 1) 33 (boW b va9 (k + 1) vc9) := bM9.set_ 3 (.slice va9 (k + 1) vc9)
      have hb8 := HB3.out.grown hgrow9 HB3.out.size (fun s e => by have := (HLT.out s e).1; omega)
      have hb9 := hb8.setCell (p := ⟨w.heap.size + 1 + 1, 3, none⟩) (by show w.heap.size ≤ w.heap.size + 1 + 1; omega) (.slice va9 (k + 1) vc9)
      have hsz9 : wf.heap.size + 1 ≤ w9.heap.size := by have hg9 := hgrow9; obtain ⟨_, _, _, g4, _⟩ := hg9; rw [World.size_alloc] at g4; exact g4
      have hO9 : (w9.setCell ⟨w.heap.size + 1 + 1, 3, none⟩ (.slice va9 (k + 1) vc9)).ownsRow (w.heap.size + 1 + 1 + 1) 44 4 (.slice va9 (k + 1) vc9) (k + 1) (flt Ne.rcL ((b.fs.take (k + 1)).map (Ne.mrF b))) := by
        rw [HT.out, flt_append, flt_one]
        exact own_onlyE (Only.setCell _ _ _ _) hown9 (fun e => by have := (hown9.lt _ e).1; omega)
      have hs2 := HSZ.out
      rw [World.size_alloc] at hs2
      have hszs : (w9.setCell ⟨w.heap.size + 1 + 1, 3, none⟩ (.slice va9 (k + 1) vc9)).heap.size = w9.heap.size := by simp [World.setCell]
      exact ⟨⟨k + 1, va9, vc9, by omega, by go_num, bB9, bR9, bM8, hO9, hb9, by rw [hszs]; omega⟩, by simp [intOf]; omega⟩
    · obtain rfl : n = k := by omega
      rw [List.take_of_length_le (by rw [HN.out]; exact Nat.le_refl _)] at hO
      have hO' : wr.ownsRow (w.heap.size + 1 + 1 + 1) 44 4 (.slice va n vc) (b.fs.map (Ne.mrF b)).length (flt Ne.rcL (b.fs.map (Ne.mrF b))) := by rw [List.length_map, HN.out]; exact hO
      obtain ⟨A9, c9, he, hr9, hc9, hm9⟩ := rows_of_owns Ne.encRc hO'
      rw [List.length_map, HN.out] at he hc9
      injection he with e1 e2 e3
      obtain rfl : A9 = va := e1.symm
      obtain rfl : c9 = vc := e3.symm
      have HR9 := Lib.hid hr9
      have HLT9 := Lib.hid (fun g (e : (Value.slice A9 n c9).ownBlock = some g) => (hO'.lt g e).1)
      have HC9 := Lib.hid (And.intro hc9 hm9)
      have hrM := bM.range
      clear hO hO' hr9 hc9 hm9 bB bM e1 e2 e3
      go_wp2_with (first | refine ldm_bo hrM (by rfl) _ rfl rfl ?_ | refine st_bo (k := b) bR rfl rfl _ _ rfl rfl rfl ?_; intro w9 bR9 hO9)
      refine bodyPost_ret (v := .agg (boW b A9 n c9)) (results_cell1 Try.results80 _ _ (w.heap.size + 1) 33 (boW b A9 n c9) (0, 0) _ rfl bR9 Try.underlying33 rfl infoBo') rfl ⟨A9, c9, rfl, ?_, HC9.out.1, (fun g off e => by have := HLT9.out g (by rw [e]; rfl); omega), hb.trans (hO9.below (by omega))⟩
      exact rows_only HR9.out hO9 (fun g off e => by have := HLT9.out g (by rw [e]; rfl); omega)
end Go.Proofs.Ytlikmlhlfbdchaa
/- nest: rows of parts of one's own; mirrorParts. -/
namespace Go.Proofs.Ytlikmlhlfbdchaa
open Go.RowKit Go.Shelf
set_option linter.unusedVariables false
theorem infoPa3 : (Try.prog.info? 68).map (fun i => (i.zero, i.size, i.bytes)) = some (some (.agg #[.slice none 0 0, .bool false]), 2, 32) := by kernel_rfl
namespace Ne
structure QP where
  a : Option Addr
  (n c : Nat)
  t : Bool
def zq : QP := ⟨none, 0, 0, false⟩
abbrev qL (x : QP) : List Value := [.slice x.a x.n x.c, .bool x.t]
theorem encQ : Enc qL 2 where
  pos := by decide
  len _ := rfl
  one x v hv := by simp [qL] at hv; rcases hv with rfl | rfl <;> rfl
/-- a part that lies at a place of a row -/
structure QOk (W : World) (base : Nat) (v : Value) (x : QP) (q : Pa) : Prop where
  pts : Pts W x.a q.o
  len : q.o.length = x.n
  cap : x.n ≤ x.c
  t : x.t = q.t
  away : ∀ g off, x.a = some ⟨g, off, none⟩ → (v.ownBlock ≠ some g ∧ g < W.heap.size) ∧ base ≤ g
/-- a row of parts of one's own -/
def PRow (W : World) (base : Nat) (v : Value) (l : List Pa) : Prop :=
  ∃ xs : List QP, xs.length = l.length ∧ W.ownsRow base 68 2 v xs.length (flt qL xs) ∧ ∀ j, j < l.length → QOk W base v (xs.getD j zq) (l.getD j za)
theorem PRow.nil (W : World) (base : Nat) : PRow W base (.slice none 0 0) [] := ⟨[], rfl, World.ownsRow_nil _ _ _ _, fun j hj => by simp at hj⟩
theorem PRow.below {W W' : World} {base : Nat} {v : Value} {l : List Pa} (h : PRow W base v l) (hb : Below W.heap.size W W') : PRow W' base v l := by
  obtain ⟨xs, h1, h2, h3⟩ := h
  exact ⟨xs, h1, own_keepE h2 hb, fun j hj => ⟨(h3 j hj).pts.below hb, (h3 j hj).len, (h3 j hj).cap, (h3 j hj).t, fun g off e => ⟨⟨((h3 j hj).away g off e).1.1, Nat.lt_of_lt_of_le ((h3 j hj).away g off e).1.2 hb.size⟩, ((h3 j hj).away g off e).2⟩⟩⟩
theorem PRow.lt {W : World} {base : Nat} {v : Value} {l : List Pa} (h : PRow W base v l) {g : Nat} (hg : v.ownBlock = some g) : base ≤ g ∧ g < W.heap.size := by
  obtain ⟨xs, h1, h2, h3⟩ := h
  exact h2.lt g hg
/-- parts in memory, none of whose blocks is older than lo -/
def PaF (W : World) (lo : Nat) (A : Option Addr) (l : List Pa) : Prop :=
  l = [] ∨ ∃ b off, A = some ⟨b, off, none⟩ ∧ (lo ≤ b ∧ b < W.heap.size) ∧ ∀ i, i < l.length → ∃ A' c, W.cell? ⟨b, off + i * 2, none⟩ = some (.slice A' (l.getD i za).o.length c) ∧ W.cell? ⟨b, off + i * 2 + 1, none⟩ = some (.bool (l.getD i za).t) ∧ Pts W A' (l.getD i za).o ∧ (l.getD i za).o.length ≤ c ∧ ∀ g off', A' = some ⟨g, off', none⟩ → lo ≤ g
theorem PaF.pam {W : World} {lo : Nat} {A : Option Addr} {l : List Pa} (h : PaF W lo A l) : PaM W A l := by
  rcases h with h | ⟨b, off, h1, h2, h3⟩
  · exact .inl h
  · refine .inr ⟨b, off, h1, h2.2, fun i hi => ?_⟩
    obtain ⟨A', c, c1, c2, c3, c4, _⟩ := h3 i hi
    exact ⟨A', c, c1, c2, c3, c4⟩
theorem PaF.below {W W' : World} {lo : Nat} {A : Option Addr} {l : List Pa} (h : PaF W lo A l) (hb : Below W.heap.size W W') : PaF W' lo A l := by
  rcases h with h | ⟨b, off, h1, h2, h3⟩
  · exact .inl h
  · refine .inr ⟨b, off, h1, ⟨h2.1, Nat.lt_of_lt_of_le h2.2 hb.size⟩, fun i hi => ?_⟩
    obtain ⟨A', c, c1, c2, c3, c4, c5⟩ := h3 i hi
    exact ⟨A', c, (hb.cell (p := ⟨b, off + i * 2, none⟩) h2.2).trans c1, (hb.cell (p := ⟨b, off + i * 2 + 1, none⟩) h2.2).trans c2, c3.below hb, c4, c5⟩
theorem PaF.only {W W' : World} {lo g0 : Nat} {A : Option Addr} {l : List Pa} (h : PaF W lo A l) (hO : Only g0 W W') (hg : g0 < lo) : PaF W' lo A l := by
  rcases h with h | ⟨b, off, h1, h2, h3⟩
  · exact .inl h
  · have hk : ∀ k, lo ≤ k → ∀ i, W'.cell? ⟨k, i, none⟩ = W.cell? ⟨k, i, none⟩ := fun k hk i => by
      have := hO.block k (by omega)
      unfold World.cell?
      simp only
      rw [this]
    refine .inr ⟨b, off, h1, ⟨h2.1, by rw [hO.size]; exact h2.2⟩, fun i hi => ?_⟩
    obtain ⟨A', c, c1, c2, c3, c4, c5⟩ := h3 i hi
    exact ⟨A', c, (hk b h2.1 _).trans c1, (hk b h2.1 _).trans c2, pts_only c3 hO (fun g off e => by have := c5 g off e; omega), c4, c5⟩
theorem PRow.mem {W : World} {base : Nat} {v : Value} {l : List Pa} (h : PRow W base v l) : ∃ A c, v = .slice A l.length c ∧ PaF W base A l ∧ l.length ≤ c ∧ c ≤ maxLen := by
  obtain ⟨xs, h1, h2, h3⟩ := h
  have hlt := h2.lt
  obtain ⟨A, c, rfl, hr, hc, hm⟩ := rows_of_owns encQ h2
  refine ⟨A, c, by rw [h1], ?_, by omega, hm⟩
  rcases Nat.eq_zero_or_pos l.length with h0 | h0
  · exact .inl (List.length_eq_zero_iff.1 h0)
  · obtain ⟨b, off, e, hb, hc⟩ := hr.at (z := zq) (by omega)
    refine .inr ⟨b, off, e, ⟨(hlt b (by rw [e]; rfl)).1, hb⟩, fun i hi => ?_⟩
    have k := h3 i hi
    have c1 := hc i (by omega) 0 _ rfl
    have c2 := hc i (by omega) 1 _ rfl
    refine ⟨(xs.getD i zq).a, (xs.getD i zq).c, ?_, ?_, k.pts, by rw [k.len]; exact k.cap, fun g off' e => (k.away g off' e).2⟩
    · rw [k.len]; exact c1
    · rw [← k.t]; exact c2
end Ne
/-- one more part appended to a row of one's own -/
theorem wpl_push {ops : Array Oper} {rest : List Oper} {o : Oper} {a : Act} {W : World} {Q : Exit → Act → World → Prop} (hgd : o.guard = none) (s x : Operand)
    (ho : o.op = .call { callee := .builtin .append, args := #[s, x], argTypes := #[34, 34] })
    (base : Nat) (v : Value) (l : List Ne.Pa) (hs : a.eval s = v) (hv : Ne.PRow W base v l) (hl : l.length ≤ 60) (q : Ne.Pa) (gN : Nat) (A1 : Option Addr) (N c1 : Nat)
    (hx : a.eval x = .slice (some ⟨gN, 0, none⟩) 1 1) (bN : Blk W gN 68 #[.slice A1 N c1, .bool q.t]) (hp : Pts W A1 q.o) (hN : q.o.length = N) (hc : N ≤ c1)
    (ha : ∀ g off, A1 = some ⟨g, off, none⟩ → (v.ownBlock ≠ some g ∧ g < W.heap.size) ∧ base ≤ g) (hbase : base ≤ W.heap.size)
    (h : ∀ v' W', Ne.PRow W' base v' (l ++ [q]) → W.grownBy W' v.ownBlock → Below base W W' → wpList Try.prog ops Q rest (a.put o.dst v') W') : wpList Try.prog ops Q (o :: rest) a W := by
  obtain ⟨i0, hi, hz0, hz1, hz2⟩ := info_parts infoPa3
  have hlv := fun {g} => hv.lt (g := g)
  obtain ⟨xs, h1, h2, h3⟩ := hv
  have hcell : ∀ j u, (Ne.qL ⟨A1, N, c1, q.t⟩)[j]? = some u → W.cell? ((⟨gN, 0, none⟩ : Addr).add j) = some u := fun j u hj => by
    rw [Go.WideShapes.add_plain]
    have := bN.cell (0 + j)
    rw [this, Nat.zero_add]
    simpa using hj
  refine wpList_plain hgd fun K hK => ?_
  refine wp_append_own_at s x 34 ho base 68 i0 _ 2 32 Try.underlying34 hi hz0 hz1 hz2 rfl (by decide) v _ _ hs h2 ⟨gN, 0, none⟩ 1 1 (Ne.qL ⟨A1, N, c1, q.t⟩) hx rfl hcell (Ne.encQ.one _) (by unfold maxLen; omega) (by omega) hbase ?_
  intro v' W' hown hgrow hblk
  refine hK _ _ (h v' W' ?_ hgrow ((Below.refl _ W).grown hgrow hbase (fun s e => (hlv e).1)))
  have hsz : W.heap.size ≤ W'.heap.size := by obtain ⟨_, _, _, g4, _⟩ := hgrow; exact g4
  have hfar : ∀ g, v.ownBlock ≠ some g ∧ g < W.heap.size → v'.ownBlock ≠ some g ∧ g < W'.heap.size := fun g hg => by
    refine ⟨?_, by omega⟩
    rcases hblk with e | e
    · rw [e]; exact hg.1
    · rw [e]; intro e2; injection e2 with e2; omega
  refine ⟨xs ++ [⟨A1, N, c1, q.t⟩], by rw [List.length_append, List.length_append, h1]; rfl, ?_, fun j hj => ?_⟩
  · rw [flt_append, flt_one, List.length_append]; exact hown
  · rw [List.length_append] at hj
    simp at hj
    by_cases hjk : j < l.length
    · have e1 : (xs ++ [(⟨A1, N, c1, q.t⟩ : Ne.QP)]).getD j Ne.zq = xs.getD j Ne.zq := by
        rw [List.getD_eq_getElem?_getD, List.getD_eq_getElem?_getD, List.getElem?_append_left (by omega)]
      have e2 : (l ++ [q]).getD j Ne.za = l.getD j Ne.za := by
        rw [List.getD_eq_getElem?_getD, List.getD_eq_getElem?_getD, List.getElem?_append_left (by omega)]
      rw [e1, e2]
      have k := h3 j hjk
      exact ⟨pts_grown k.pts hgrow (fun g off e => (k.away g off e).1.1), k.len, k.cap, k.t, fun g off e => ⟨hfar g (k.away g off e).1, (k.away g off e).2⟩⟩
    · obtain rfl : j = l.length := by omega
      have e1 : (xs ++ [(⟨A1, N, c1, q.t⟩ : Ne.QP)]).getD l.length Ne.zq = ⟨A1, N, c1, q.t⟩ := by
        rw [List.getD_eq_getElem?_getD, List.getElem?_append_right (by omega), h1]; simp
      have e2 : (l ++ [q]).getD l.length Ne.za = q := by
        rw [List.getD_eq_getElem?_getD, List.getElem?_append_right (by omega)]; simp
      rw [e1, e2]
      exact ⟨pts_grown hp hgrow (fun g off e => (ha g off e).1.1), hN, hc, rfl, fun g off e => ⟨hfar g (ha g off e).1, (ha g off e).2⟩⟩
theorem take_mapP {ps : List Ne.Pa} {k : Nat} (hk : k < ps.length) : (ps.take (k + 1)).map Ne.mrP = (ps.take k).map Ne.mrP ++ [Ne.mrP (ps.getD k Ne.za)] := by
  rw [List.take_add_one, List.getElem?_eq_getElem hk, List.map_append]
  have : ps.getD k Ne.za = ps[k] := by rw [List.getD_eq_getElem?_getD, List.getElem?_eq_getElem hk]; rfl
  rw [this]; rfl
theorem dmir_at (A : Option Addr) (l : List Geo.XY) (n c : Nat) (hn : l.length = n) (hv : validB l = true) (w : World) (hP : Pts w A l) :
    Calls Try.prog 108 #[.slice A n c] w fun e w' => ∃ A1 c1, e = .returned (.tuple #[.slice A1 n c1, .int .i64 0]) ∧ Pts w' A1 (Geo.canon (mirL l)) ∧ n ≤ c1 ∧ (∀ g off, A1 = some ⟨g, off, none⟩ → w.heap.size ≤ g ∧ g < w'.heap.size) ∧ Below w.heap.size w w' := by
  subst hn
  refine (dmirror_any A l c w hP).mono ?_
  rintro e w' ⟨v, rfl, hown, hb⟩
  rw [lstV_ok hv] at hown ⊢
  have hlt := hown.lt
  obtain ⟨A1, c1, rfl, hp, hc⟩ := pts_of_owns' hown
  have hlen : (Geo.canon (mirL l)).length = l.length := by rw [Geo.canon_length, mirL_len]
  simp only at hp hc ⊢
  rw [hlen] at hc ⊢
  exact ⟨A1, c1, rfl, hp, hc, fun g off e => hlt g (by rw [e]; rfl), hb⟩
theorem rmir_at (A : Option Addr) (l : List Geo.XY) (n c : Nat) (hn : l.length = n) (hv : validB l = true) (w : World) (hP : Pts w A l) :
    Calls Try.prog 83 #[.slice A n c] w fun e w' => ∃ A1 c1, e = .returned (.tuple #[.slice A1 n c1, .int .i64 0]) ∧ Pts w' A1 (Geo.canon (mirL l)) ∧ n ≤ c1 ∧ (∀ g off, A1 = some ⟨g, off, none⟩ → w.heap.size ≤ g ∧ g < w'.heap.size) ∧ Below w.heap.size w w' := by
  subst hn
  refine (rmirror_any A l c w hP).mono ?_
  rintro e w' ⟨v, rfl, hown, hb⟩
  rw [lstV_ok hv] at hown ⊢
  have hlt := hown.lt
  obtain ⟨A1, c1, rfl, hp, hc⟩ := pts_of_owns' hown
  have hlen : (Geo.canon (mirL l)).length = l.length := by rw [Geo.canon_length, mirL_len]
  simp only at hp hc ⊢
  rw [hlen] at hc ⊢
  exact ⟨A1, c1, rfl, hp, hc, fun g off e => hlt g (by rw [e]; rfl), hb⟩
set_option maxRecDepth 100000 in
set_option maxHeartbeats 4000000 in
theorem mirparts_b (B : Option Addr) (m c' : Nat) (ps : List Ne.Pa) (hm : ps.length = m) (hv : Ne.vPa ps = true)
    (w : World) (hP : Ne.PaM w B ps) :
    Calls Try.prog 81 #[.slice B m c'] w fun e w' => ∃ A1 c1, e = .returned (.slice A1 m c1) ∧ Ne.PaF w' w.heap.size A1 (ps.map Ne.mrP) ∧ m ≤ c1 ∧ c1 ≤ maxLen ∧ Below w.heap.size w w' := by
  have h60 := Ne.vPa_len hv
  rw [hm] at h60
  have HP := Lib.hid hP
  have HM := Lib.hid hm
  have HVA := Lib.hid (fun k (hk : k < m) => Ne.vPa_at hv (q := k) (by omega))
  have HMI := Lib.hid (fun A l n c hn hv W h => dmir_at A l n c hn hv W h)
  clear hP hm hv
  go_enter Try.func81, Try.ntmps81
  go_wp2
  go_loopw [3, 10] (fun v i wr => ∃ k : Nat, k ≤ m ∧ i = .int .i64 k ∧ Ne.PRow wr w.heap.size v ((ps.take k).map Ne.mrP) ∧ Below w.heap.size w wr) (fun _ i _ => m - (intOf i).toNat)
  case atStart => exact ⟨0, Nat.zero_le _, rfl, Ne.PRow.nil _ _, Below.refl _ _⟩
  case round =>
    obtain ⟨k, hk, rfl, hO, hb⟩ := hrel
    by_cases hlt : k < m
    · obtain ⟨gp, op, hBe, hgp, hcp⟩ := (HP.out.below hb).open (by rw [HM.out]; omega)
      subst hBe
      obtain ⟨D, dc, d1, d2, d3, d4⟩ := hcp k (by rw [HM.out]; exact hlt)
      have hvk := HVA.out k hlt
      have HT := Lib.hid (take_mapP (ps := ps) (k := k) (by rw [HM.out]; exact hlt))
      obtain ⟨q, hq⟩ : ∃ q, ps.getD k Ne.za = q := ⟨_, rfl⟩
      rw [hq] at d1 d2 d3 d4 hvk HT
      obtain ⟨qo, qt⟩ := q
      dsimp only at d1 d2 d3 d4 hvk
      obtain ⟨N, hN⟩ : ∃ N, qo.length = N := ⟨_, rfl⟩
      rw [hN] at d1 d4
      have HMK := Lib.hid (HMI.out D qo N dc hN hvk)
      have hO1 := hO.below ((Below.refl wr.heap.size wr).alloc (Nat.le_refl _) (.cells #[.slice D N dc, .bool qt] 68))
      have hb1 := hb.alloc hb.size (.cells #[.slice D N dc, .bool qt] 68)
      have HD := Lib.hid (d3.below ((Below.refl wr.heap.size wr).alloc (Nat.le_refl _) (.cells #[.slice D N dc, .bool qt] 68)))
      have bN := Blk.new wr 68 #[.slice D N dc, .bool qt]
      have HO1 := Lib.hid hO1
      have HLN : Hid ((Ne.mrP ⟨qo, qt⟩).o.length = N) := Lib.hid (by unfold Ne.mrP; simp only; rw [Geo.canon_length, mirL_len, hN])
      have HL60 : Hid (((ps.take k).map Ne.mrP).length ≤ 60) := Lib.hid (by rw [List.length_map, List.length_take, HM.out]; omega)
      have hlm : (k : Int) < (m : Int) := by omega
      have p0 := bN.cell 0
      simp only [List.getElem?_toArray, List.getElem?_cons_zero] at p0
      clear hcp hq hvk hN d3 hO hO1
      go_wp2_with fail
      refine (HMK.out _ HD.out).mono ?_
      rintro e w3 ⟨A1, c1, rfl, hp3, hc3, ha3, hb3⟩
      have hb4 := hb1.trans (hb3.mono hb1.size)
      have bN3 := bN.below hb3 bN.lt
      have p1 := bN3.cell 1
      simp only [List.getElem?_toArray, List.getElem?_cons_zero, List.getElem?_cons_succ] at p1
      have hO3 := HO1.out.below hb3
      have hal := (Below.refl w3.heap.size w3).alloc (Nat.le_refl _) (.cells #[.slice A1 N c1, .bool qt] 68)
      have HO4 := Lib.hid (hO3.below hal)
      have HP4 := Lib.hid (hp3.below hal)
      have HB4 := Lib.hid (hb4.alloc hb4.size (.cells #[.slice A1 N c1, .bool qt] 68))
      have HBN := Lib.hid (Blk.new w3 68 #[.slice A1 N c1, .bool qt])
      have HC3 := Lib.hid hc3
      have HA4 : Hid (∀ g off, A1 = some ⟨g, off, none⟩ → (Value.ownBlock u3 ≠ some g ∧ g < (w3.alloc (.cells #[.slice A1 N c1, .bool qt] 68)).heap.size) ∧ w.heap.size ≤ g) := Lib.hid (fun g off e => by
        have h1 := ha3 g off e
        have h2 := hb1.size
        refine ⟨⟨fun e2 => ?_, by rw [World.size_alloc]; omega⟩, by omega⟩
        have := (HO1.out.lt e2).2
        omega)
      clear hp3 hc3 ha3 hal hO3 bN bN3 p0
      go_wp2_with (at_builtin; refine wpl_push rfl _ _ rfl w.heap.size u3 _ rfl HO4.out HL60.out (Ne.mrP ⟨qo, qt⟩) w3.heap.size A1 N c1 rfl HBN.out HP4.out HLN.out HC3.out HA4.out HB4.out.size ?_; intro v9 w9 hO9 hgrow9 hb9)
      have hb10 := HB4.out.trans (hb9.mono (Nat.le_refl _))
      have HO9 : Hid (Ne.PRow w9 w.heap.size v9 ((ps.take (k + 1)).map Ne.mrP)) := Lib.hid (by rw [HT.out]; exact hO9)
      clear hO9 hgrow9 hb9
      go_wp2
      go_roundw
      case rel => exact ⟨k + 1, by omega, by go_num, HO9.out, hb10⟩
      case measure => simp [intOf]; omega
    · obtain rfl : m = k := by omega
      rw [List.take_of_length_le (by rw [HM.out]; exact Nat.le_refl _)] at hO
      obtain ⟨A9, c9, rfl, h1, h2, h3⟩ := hO.mem
      have HH := Lib.hid (And.intro h1 (And.intro h2 h3))
      rw [List.length_map, HM.out]
      clear hO h1 h2 h3
      go_wp2
      go_ret
      exact ⟨A9, c9, rfl, HH.out.1, by have := HH.out.2.1; rw [List.length_map, HM.out] at this; exact this, HH.out.2.2, hb⟩
end Go.Proofs.Ytlikmlhlfbdchaa
/- nest: Mirror of the program. -/
namespace Go.Proofs.Ytlikmlhlfbdchaa
open Go.RowKit Go.Shelf
set_option linter.unusedVariables false
theorem results_cell_tmp3 {P : Program} {fn : Func} {p q r s : Tmp} {ty : TypeId} (h : fn.results = #[.cell p ty, .tmp q, .tmp r, .tmp s]) (tmps : Array Value) (w : World) (g : Nat) (t : TypeId) (cs : Array Value) (fr : Nat × Nat) (d : TypeDesc)
    (hp : tmps.getD p undef = .pointer (some ⟨g, 0, none⟩)) (hg : w.heap[g]? = some (.cells cs t fr))
    (hu : P.underlying ty = some d) (hd : (match d with | .struct _ | .array _ _ => true | _ => false) = true) (hi : (P.info? ty).map (·.size) = some cs.size) :
    (results fn tmps).run P w = .ok (.tuple #[.agg cs, tmps.getD q undef, tmps.getD r undef, tmps.getD s undef]) w := by
  have hp' : tmps[p]?.getD undef = .pointer (some ⟨g, 0, none⟩) := by simpa using hp
  simp [results, h, hp', asAddr, run_loadVar_row w g t ty cs fr d hg hu hd hi]
set_option maxRecDepth 100000 in
set_option maxHeartbeats 4000000 in
theorem Mirror_err (b : Ne.Bo) (A B C : Option Addr) (ps : List Ne.Pa) (pl : List Ne.Pc) (f fc m c' n c'' : Nat) (hf : b.fs.length = f) (hm : ps.length = m) (hn : pl.length = n) (I E : Int) (hE : Ne.ckA b ps pl = (I, E)) (h0 : E ≠ 0)
    (w : World) (hF : Rows Ne.rcL 4 w A b.fs) (hP : Ne.PaM w B ps) (hL : Rows Ne.pcL 4 w C pl) :
    Calls Try.prog 42 #[.agg (boW b A f fc), .slice B m c', .slice C n c''] w fun e w' => e = .returned (.tuple #[.agg #[.int .i64 0, .int .i64 0, .int .i64 0, .slice none 0 0], .slice none 0 0, .slice none 0 0, .int .i64 E]) ∧ Below w.heap.size w w' := by
  have hB1 := (Below.refl w.heap.size w).alloc (Nat.le_refl _) (.cells (boW b A f fc) 33)
  have hB := hB1.alloc hB1.size (.cells #[.int .i64 0, .int .i64 0, .int .i64 0, .slice none 0 0] 33)
  have bB := (Blk.new w 33 (boW b A f fc)).alloc (.cells #[.int .i64 0, .int .i64 0, .int .i64 0, .slice none 0 0] 33)
  have bR := Blk.new (w.alloc (.cells (boW b A f fc) 33)) 33 #[.int .i64 0, .int .i64 0, .int .i64 0, .slice none 0 0]
  rw [World.size_alloc] at bR
  have hrB := bB.range
  have HC := Lib.hid (fun W h h' h'' => Check_b b A B C ps pl f fc m c' n c'' hf hm hn I E hE W h h' h'')
  have HF := Lib.hid (hF.below hB)
  have HP := Lib.hid (hP.below hB)
  have HL := Lib.hid (hL.below hB)
  have hne : (E == 0) = false := by simp; exact h0
  clear hF hP hL hf hm hn hE
  go_enter Try.func42, Try.ntmps42
  go_wp2_with (refine ldm_bo hrB (by rfl) _ rfl rfl (Hid.out ?_))
  refine Lib.hid ?_
  go_wp2_with fail
  refine (HC.out _ HF.out HP.out HL.out).mono ?_
  rintro e w1 ⟨rfl, hb1⟩
  have hW := hB.trans (hb1.mono hB.size)
  have bR1 := bR.below hb1 bR.lt
  go_wp2_with (refine st_bo (k := ⟨0, 0, 0, []⟩) bR1 rfl rfl _ _ rfl rfl rfl ?_; intro w9 bR9 hO9)
  exact bodyPost_ret (v := .tuple #[.agg #[.int .i64 0, .int .i64 0, .int .i64 0, .slice none 0 0], .slice none 0 0, .slice none 0 0, .int .i64 E]) (results_cell_tmp3 Try.results42 _ _ (w.heap.size + 1) 33 #[.int .i64 0, .int .i64 0, .int .i64 0, .slice none 0 0] (0, 0) _ rfl bR9 Try.underlying33 rfl infoBo') rfl ⟨rfl, hW.trans (hO9.below (by omega))⟩
set_option maxRecDepth 100000 in
set_option maxHeartbeats 4000000 in
theorem Mirror_ok (b : Ne.Bo) (A B C : Option Addr) (ps : List Ne.Pa) (pl : List Ne.Pc) (f fc m c' n c'' : Nat) (hf : b.fs.length = f) (hm : ps.length = m) (hn : pl.length = n) (hE : Ne.ckA b ps pl = (0, 0))
    (w : World) (hF : Rows Ne.rcL 4 w A b.fs) (hP : Ne.PaM w B ps) (hL : Rows Ne.pcL 4 w C pl) :
    Calls Try.prog 42 #[.agg (boW b A f fc), .slice B m c', .slice C n c''] w fun e w' => ∃ A1 c1 A2 c2 A3 c3, e = .returned (.tuple #[.agg (boW (Ne.mrB b) A1 f c1), .slice A2 m c2, .slice A3 n c3, .int .i64 0]) ∧ Rows Ne.rcL 4 w' A1 (Ne.mrB b).fs ∧ Ne.PaM w' A2 (ps.map Ne.mrP) ∧ Rows Ne.pcL 4 w' A3 (pl.map (Ne.mrL b)) ∧ (f ≤ c1 ∧ m ≤ c2 ∧ n ≤ c3) ∧ Below w.heap.size w w' := by
  have hB1 := (Below.refl w.heap.size w).alloc (Nat.le_refl _) (.cells (boW b A f fc) 33)
  have hB := hB1.alloc hB1.size (.cells #[.int .i64 0, .int .i64 0, .int .i64 0, .slice none 0 0] 33)
  have bB := (Blk.new w 33 (boW b A f fc)).alloc (.cells #[.int .i64 0, .int .i64 0, .int .i64 0, .slice none 0 0] 33)
  have bR := Blk.new (w.alloc (.cells (boW b A f fc) 33)) 33 #[.int .i64 0, .int .i64 0, .int .i64 0, .slice none 0 0]
  rw [World.size_alloc] at bR
  have hrB := bB.range
  have hrl := Ne.rl_of (b := b) (ps := ps) (pl := pl) (by rw [hE])
  obtain ⟨hvb, hvp⟩ := Ne.vAll_and hrl.va
  have h200 := hrl.len
  rw [hn] at h200
  have hvi := Ne.vBo_in hvb
  have HC := Lib.hid (fun W h h' h'' => Check_b b A B C ps pl f fc m c' n c'' hf hm hn 0 0 hE W h h' h'')
  have HMB := Lib.hid (fun W h => mirboard_b b A f fc hf hvb W h)
  have HMP := Lib.hid (fun W h => mirparts_b B m c' ps hm hvp W h)
  have HML := Lib.hid (fun W h => mirplaces_b b A C f fc n c'' pl hn h200 hvi.1 (fun j hj => by
    have hj' : j < pl.length := by omega
    have := Ne.lsB_ok (Ne.rg_ls (hrl.rg _ (Ne.getD_mem hj')))
    exact this.1) W h)
  have HF := Lib.hid (hF.below hB)
  have HP := Lib.hid (hP.below hB)
  have HL := Lib.hid (hL.below hB)
  have HNN := Lib.hid hn
  clear hF hP hL hf hm hn hE hrl hvb hvp hvi h200
  go_enter Try.func42, Try.ntmps42
  go_wp2_with (refine ldm_bo hrB (by rfl) _ rfl rfl (Hid.out ?_))
  refine Lib.hid ?_
  go_wp2_with fail
  refine (HC.out _ HF.out HP.out HL.out).mono ?_
  rintro e w1 ⟨rfl, hb1⟩
  have hW := hB.trans (hb1.mono hB.size)
  have bB1 := bB.below hb1 bB.lt
  have bR1 := bR.below hb1 bR.lt
  have HF1 := Lib.hid (HF.out.below hb1)
  have HP1 := Lib.hid (HP.out.below hb1)
  have HL1 := Lib.hid (HL.out.below hb1)
  clear hrB bB bR HF HP HL hb1 hB
  go_wp2
  refine wp_region_noPanic ?_
  refine wp_region_held (S := fun V => V.rangeAt w.heap.size 0 (boW b A f fc).toList) (by kernel_rfl) ?_
  change wpAnyH _ _ _ _ _ _ _ _ (World.drew _)
  have hS : (fun V => World.rangeAt V w.heap.size 0 (boW b A f fc).toList) w1.drew := bB1.drew.range
  have hlB : w.heap.size < w1.drew.heap.size := bB1.lt
  have hlR : w.heap.size + 1 < w1.drew.heap.size := bR1.lt
  have hd : Below w1.heap.size w1 w1.drew := (Below.refl _ _).drew
  have bR2 := bR1.drew
  have hV0 := hW.trans (hd.mono hW.size)
  have HF2 := Lib.hid (HF1.out.below hd)
  have HP2 := Lib.hid (HP1.out.below hd)
  have HL2 := Lib.hid (HL1.out.below hd)
  clear hd HF1 HP1 HL1 bB1 bR1
  generalize World.drew w1 = V0 at *
  refine takeD (i := 0) (d := some 23) (v := ?_) rfl rfl (by kernel_rfl) (by decide +kernel) (by decide +kernel) (fun _ _ _ h => h) (Or.inl ⟨by first | kernel_rfl | rfl, ?_⟩) hS ?_
  rotate_left
  · intro w' hT; have t0 := hT 0 _ rfl; have t1 := hT 1 _ rfl; have t2 := hT 2 _ rfl; have t3 := hT 3 _ rfl; simp only [Nat.zero_add] at t0 t1 t2 t3; first | (go_simp; done) | (go_simp; with_reducible rfl)
  refine takeD (i := 2) (d := some 25) (v := ?_) rfl rfl (by kernel_rfl) (by decide +kernel) (by decide +kernel) (fun _ _ _ h => h) (Or.inl ⟨by first | kernel_rfl | rfl, ?_⟩) hS ?_
  rotate_left
  · intro w' hT; first | (go_simp; done) | (go_simp; with_reducible rfl)
  refine takeD (i := 4) (d := some 27) (v := ?_) rfl rfl (by kernel_rfl) (by decide +kernel) (by decide +kernel) (fun _ _ _ h => h) (Or.inl ⟨by first | kernel_rfl | rfl, ?_⟩) hS ?_
  rotate_left
  · intro w' hT; have t0 := hT 0 _ rfl; have t1 := hT 1 _ rfl; have t2 := hT 2 _ rfl; have t3 := hT 3 _ rfl; simp only [Nat.zero_add] at t0 t1 t2 t3; first | (go_simp; done) | (go_simp; with_reducible rfl)
  refine takeD (i := 5) (d := some 28) (v := ?_) rfl rfl (by kernel_rfl) (by decide +kernel) (by decide +kernel) (fun _ _ _ h => h) (Or.inl ⟨by first | kernel_rfl | rfl, ?_⟩) hS ?_
  rotate_left
  · intro w' hT; first | (go_simp; done) | (go_simp; with_reducible rfl)
  refine wpAnyH_oneE (i := 1) (by decide +kernel) rfl (by kernel_rfl) (fun K hK' => ?_)
  go_simp
  refine (HMB.out V0 HF2.out).mono ?_
  rintro e V1 ⟨A1, c1, rfl, hr1, hc1, hl1, hb1⟩
  have hS1 : World.rangeAt V1 w.heap.size 0 (boW b A f fc).toList := rangeAt_below hS hlB hb1
  refine hK' _ _ ⟨hS1, ?_⟩
  clear hK' K
  have hV1 := hV0.trans (hb1.mono hV0.size)
  have bR3 := bR2.below hb1 bR2.lt
  have hlB1 : w.heap.size < V1.heap.size := Nat.lt_of_lt_of_le hlB hb1.size
  refine wpAnyH_oneE (i := 3) (by decide +kernel) rfl (by kernel_rfl) (fun K hK' => ?_)
  go_simp
  refine (HMP.out V1 (HP2.out.below hb1)).mono ?_
  rintro e V2 ⟨A2, c2, rfl, hr2, hc2, _, hb2⟩
  have hS2 : World.rangeAt V2 w.heap.size 0 (boW b A f fc).toList := rangeAt_below hS1 hlB1 hb2
  refine hK' _ _ ⟨hS2, ?_⟩
  clear hK' K
  have hV2 := hV1.trans (hb2.mono hV1.size)
  have bR4 := bR3.below hb2 bR3.lt
  have hlB2 : w.heap.size < V2.heap.size := Nat.lt_of_lt_of_le hlB1 hb2.size
  refine wpAnyH_oneE (i := 6) (by decide +kernel) rfl (by kernel_rfl) (fun K hK' => ?_)
  go_simp
  refine (HML.out V2 ((HL2.out.below hb1).below hb2)).mono ?_
  rintro e V3 ⟨v3, rfl, hO3, hb3⟩
  have hS3 : World.rangeAt V3 w.heap.size 0 (boW b A f fc).toList := rangeAt_below hS2 hlB2 hb3
  refine hK' _ _ ⟨hS3, ?_⟩
  clear hK' K
  have hV3 := hV2.trans (hb3.mono hV2.size)
  have bR5 := bR4.below hb3 bR4.lt
  have hO3' : V3.ownsRow V2.heap.size 40 4 v3 (pl.map (Ne.mrL b)).length (flt Ne.pcL (pl.map (Ne.mrL b))) := by rw [List.length_map, HNN.out]; exact hO3
  have hlt3 := hO3.lt
  obtain ⟨A3, c3, rfl, hr3, hc3, _⟩ := rows_of_owns Ne.encPc hO3'
  rw [List.length_map, HNN.out] at hlt3 hc3 ⊢
  refine wpAnyH_oneE (i := 7) (by decide +kernel) rfl (by kernel_rfl) (fun K hK' => ?_)
  have bX := bR5
  refine wp_store_row 33 _ _ rfl (w.heap.size + 1) (boW (Ne.mrB b) A1 f c1) (by rfl) (by rfl) 33 #[.int .i64 0, .int .i64 0, .int .i64 0, .slice none 0 0] bX infoBo' rfl (by simp [Value.oneCell']) ?_
  have hO9 := Only.setRow (w.heap.size + 1) V3 (boW (Ne.mrB b) A1 f c1)
  have bR9 : Blk (V3.setRow (w.heap.size + 1) (boW (Ne.mrB b) A1 f c1)) (w.heap.size + 1) 33 (boW (Ne.mrB b) A1 f c1) := setRow_same bX
  have hS9 : World.rangeAt (V3.setRow (w.heap.size + 1) (boW (Ne.mrB b) A1 f c1)) w.heap.size 0 (boW b A f fc).toList := by
    intro j v hv
    have h1 := hS3 j v hv
    have h2 := hO9.block w.heap.size (by omega)
    unfold World.cell? at h1 ⊢
    simp only at h1 ⊢
    rw [h2]; exact h1
  refine hK' _ _ ⟨hS9, ?_⟩
  clear hK' K
  refine takeD (i := 8) (d := some 7) (v := .slice A2 m c2) rfl rfl (by kernel_rfl) (by decide +kernel) (by decide +kernel) (fun _ _ _ h => h) (Or.inl ⟨by first | kernel_rfl | rfl, ?_⟩) hS9 ?_
  · intro w' hT; first | (go_simp; done) | (go_simp; with_reducible rfl)
  refine takeD (i := 9) (d := some 8) (v := .slice A3 n c3) rfl rfl (by kernel_rfl) (by decide +kernel) (by decide +kernel) (fun _ _ _ h => h) (Or.inl ⟨by first | kernel_rfl | rfl, ?_⟩) hS9 ?_
  · intro w' hT; first | (go_simp; done) | (go_simp; with_reducible rfl)
  refine takeD (i := 10) (d := some 9) (v := .int .i64 0) rfl rfl (by kernel_rfl) (by decide +kernel) (by decide +kernel) (fun _ _ _ h => h) (Or.inl ⟨by first | kernel_rfl | rfl, ?_⟩) hS9 ?_
  · intro w' hT; first | (go_simp; done) | (go_simp; with_reducible rfl)
  refine wpAnyH_done (by decide +kernel) ?_ _
  refine NoPanic.normal ?_
  have hszV := hV0.size
  have hs1 := hb1.size
  have hs2 := hb2.size
  have f1 := rows_only (((hr1.below hb2).below hb3)) hO9 (fun g off e => by have := hl1 g off e; omega)
  have f2 := ((hr2.below hb3).only hO9 (by omega)).pam
  have f3 := rows_only hr3 hO9 (fun g off e => by have := (hlt3 g (by rw [e]; rfl)).1; omega)
  have hb9 := hV3.trans (hO9.below (by omega))
  have HH := Lib.hid (And.intro f1 (And.intro f2 (And.intro f3 (And.intro (And.intro hc1 (And.intro hc2 hc3)) hb9))))
  generalize V3.setRow (w.heap.size + 1) (boW (Ne.mrB b) A1 f c1) = V9 at *
  go_wp2
  exact bodyPost_ret (v := .tuple #[.agg (boW (Ne.mrB b) A1 f c1), .slice A2 m c2, .slice A3 n c3, .int .i64 0]) (results_cell_tmp3 Try.results42 _ _ (w.heap.size + 1) 33 (boW (Ne.mrB b) A1 f c1) (0, 0) _ rfl bR9 Try.underlying33 rfl infoBo') rfl ⟨A1, c1, A2, c2, A3, c3, rfl, HH.out⟩
end Go.Proofs.Ytlikmlhlfbdchaa
/- nest: Mirror of the document. -/
namespace Go.Proofs.Ytlikmlhlfbdchaa
open Go.RowKit Go.Shelf
set_option linter.unusedVariables false
set_option maxRecDepth 100000 in
set_option maxHeartbeats 4000000 in
theorem rMirror_err (b : Ne.Bo) (A B C : Option Addr) (ps : List Ne.Pa) (pl : List Ne.Pc) (f fc m c' n c'' : Nat) (hf : b.fs.length = f) (hm : ps.length = m) (hn : pl.length = n) (hfM : f ≤ maxLen) (hmM : m ≤ maxLen) (hcap : n ≤ c'') (I E : Int) (hE : Ne.ckA b ps pl = (I, E)) (h0 : E ≠ 0)
    (w : World) (hF : Rows Ne.rcL 4 w A b.fs) (hP : Ne.PaM w B ps) (hL : Rows Ne.pcL 4 w C pl) :
    Calls Try.prog 43 #[.agg (boW b A f fc), .slice B m c', .slice C n c''] w fun e w' => e = .returned (.tuple #[.agg #[.int .i64 0, .int .i64 0, .int .i64 0, .slice none 0 0], .slice none 0 0, .slice none 0 0, .int .i64 E]) ∧ Below w.heap.size w w' := by
  have hB1 := (Below.refl w.heap.size w).alloc (Nat.le_refl _) (.cells (boW b A f fc) 33)
  have hB := hB1.alloc hB1.size (.cells #[.int .i64 0, .int .i64 0, .int .i64 0, .slice none 0 0] 33)
  have bB := (Blk.new w 33 (boW b A f fc)).alloc (.cells #[.int .i64 0, .int .i64 0, .int .i64 0, .slice none 0 0] 33)
  have bR := Blk.new (w.alloc (.cells (boW b A f fc) 33)) 33 #[.int .i64 0, .int .i64 0, .int .i64 0, .slice none 0 0]
  rw [World.size_alloc] at bR
  have hrB := bB.range
  have HC := Lib.hid (fun W h h' h'' => rCheck_b b A B C ps pl f fc m c' n c'' hf hm hn hfM hmM hcap I E hE W h h' h'')
  have HF := Lib.hid (hF.below hB)
  have HP := Lib.hid (hP.below hB)
  have HL := Lib.hid (hL.below hB)
  have hne : (E == 0) = false := by simp; exact h0
  clear hF hP hL hf hm hn hE
  go_enter Try.func43, Try.ntmps43
  go_wp2_with (refine ldm_bo hrB (by rfl) _ rfl rfl (Hid.out ?_))
  refine Lib.hid ?_
  go_wp2_with fail
  refine (HC.out _ HF.out HP.out HL.out).mono ?_
  rintro e w1 ⟨rfl, hb1⟩
  have hW := hB.trans (hb1.mono hB.size)
  have bR1 := bR.below hb1 bR.lt
  go_wp2_with (refine st_bo (k := ⟨0, 0, 0, []⟩) bR1 rfl rfl _ _ rfl rfl rfl ?_; intro w9 bR9 hO9)
  exact bodyPost_ret (v := .tuple #[.agg #[.int .i64 0, .int .i64 0, .int .i64 0, .slice none 0 0], .slice none 0 0, .slice none 0 0, .int .i64 E]) (results_cell_tmp3 Try.results43 _ _ (w.heap.size + 1) 33 #[.int .i64 0, .int .i64 0, .int .i64 0, .slice none 0 0] (0, 0) _ rfl bR9 Try.underlying33 rfl infoBo') rfl ⟨rfl, hW.trans (hO9.below (by omega))⟩
set_option maxRecDepth 100000 in
set_option maxHeartbeats 4000000 in
theorem rMirror_ok (b : Ne.Bo) (A B C : Option Addr) (ps : List Ne.Pa) (pl : List Ne.Pc) (f fc m c' n c'' : Nat) (hf : b.fs.length = f) (hm : ps.length = m) (hn : pl.length = n) (hfM : f ≤ maxLen) (hmM : m ≤ maxLen) (hcap : n ≤ c'') (hE : Ne.ckA b ps pl = (0, 0))
    (w : World) (hF : Rows Ne.rcL 4 w A b.fs) (hP : Ne.PaM w B ps) (hL : Rows Ne.pcL 4 w C pl) :
    Calls Try.prog 43 #[.agg (boW b A f fc), .slice B m c', .slice C n c''] w fun e w' => ∃ A1 c1 A2 c2 A3 c3, e = .returned (.tuple #[.agg (boW (Ne.mrB b) A1 f c1), .slice A2 m c2, .slice A3 n c3, .int .i64 0]) ∧ Rows Ne.rcL 4 w' A1 (Ne.mrB b).fs ∧ Ne.PaM w' A2 (ps.map Ne.mrP) ∧ Rows Ne.pcL 4 w' A3 (pl.map (Ne.mrL b)) ∧ Below w.heap.size w w' := by
  have hB1 := (Below.refl w.heap.size w).alloc (Nat.le_refl _) (.cells (boW b A f fc) 33)
  have hB := hB1.alloc hB1.size (.cells #[.int .i64 0, .int .i64 0, .int .i64 0, .slice none 0 0] 33)
  have bB := (Blk.new w 33 (boW b A f fc)).alloc (.cells #[.int .i64 0, .int .i64 0, .int .i64 0, .slice none 0 0] 33)
  have bR := Blk.new (w.alloc (.cells (boW b A f fc) 33)) 33 #[.int .i64 0, .int .i64 0, .int .i64 0, .slice none 0 0]
  rw [World.size_alloc] at bR
  have hrB := bB.range
  have hrl := Ne.rl_of (b := b) (ps := ps) (pl := pl) (by rw [hE])
  obtain ⟨hvb, hvp⟩ := Ne.vAll_and hrl.va
  have h200 := hrl.len
  rw [hn] at h200
  have h60 := Ne.vPa_len hvp
  rw [hm] at h60
  have hvi := Ne.vBo_in hvb
  obtain ⟨⟨bw1, bw2⟩, _, _, h10, _⟩ := hvi
  have h10' : f ≤ 10 := by omega
  have HC := Lib.hid (fun W h h' h'' => rCheck_b b A B C ps pl f fc m c' n c'' hf hm hn hfM hmM hcap 0 0 hE W h h' h'')
  have HFB := Lib.hid (fun k (hk : k < f) => Ne.fault_bd hvb (j := k) (by omega))
  have HTK := Lib.hid (fun k (hk : k < f) => Ne.take_mapF (b := b) (k := k) (by omega))
  have HVA := Lib.hid (fun k (hk : k < m) => Ne.vPa_at hvp (q := k) (by omega))
  have HMI := Lib.hid (fun A l n c hn hv W h => rmir_at A l n c hn hv W h)
  have HX := Lib.hid (fun j (hj : j < n) => (Ne.lsB_ok (Ne.rg_ls (hrl.rg _ (Ne.getD_mem (show j < pl.length by omega))))).1)
  have HF := Lib.hid (hF.below hB)
  have HP := Lib.hid (hP.below hB)
  have HL := Lib.hid (hL.below hB)
  have HF0 := Lib.hid hF
  have HP0 := Lib.hid hP
  have HL0 := Lib.hid hL
  have HN := Lib.hid hn
  have HNF := Lib.hid hf
  have HM := Lib.hid hm
  obtain ⟨i0, hi0, hz0, hn0, hy0⟩ := info_parts infoRc3
  obtain ⟨i1, hi1, hz1, hn1, hy1⟩ := info_parts infoPc3
  clear hF hP hL hf hm hn hE hrl hvb hvp h10 hfM hmM hcap
  go_enter Try.func43, Try.ntmps43
  go_wp2_with (refine ldm_bo hrB (by rfl) _ rfl rfl (Hid.out ?_))
  refine Lib.hid ?_
  go_wp2_with fail
  refine (HC.out _ HF.out HP.out HL.out).mono ?_
  rintro e w1 ⟨rfl, hb1⟩
  have hW := hB.trans (hb1.mono hB.size)
  have bB1 := bB.below hb1 bB.lt
  have bR1 := bR.below hb1 bR.lt
  have hRw1 := bR1.lt
  have hrB1 := bB1.range
  have bB2 := bB1.alloc (.cells (boW b none 0 0) 33)
  have bR2 := bR1.alloc (.cells (boW b none 0 0) 33)
  have bM2 := Blk.new w1 33 (boW b none 0 0)
  have hW2 := hW.alloc hW.size (.cells (boW b none 0 0) 33)
  have hsz : (w1.alloc (.cells (boW b none 0 0) 33)).heap.size = w1.heap.size + 1 := World.size_alloc _ _
  have p3 := bB2.cell 3
  simp only [List.getElem?_toArray, List.getElem?_cons_zero, List.getElem?_cons_succ] at p3
  clear hrB bB bR HF HP HL hb1 hB bB1 bR1
  go_wp2_with (refine ldm_bo hrB1 (by rfl) _ rfl rfl ?_)
  clear hrB1 p3
  obtain ⟨M, hM⟩ : ∃ M, w1.heap.size = M := ⟨_, rfl⟩
  rw [hM] at bM2 hsz hRw1 ⊢
  have HMM := Lib.hid hM
  have HRW := Lib.hid hRw1
  clear hRw1 hW
  go_loopw [37] (fun i wr => ∃ (k : Nat) (va : Option Addr) (vc : Nat), k ≤ f ∧ i = .int .i64 k ∧ Blk wr w.heap.size 33 (boW b A f fc) ∧ Blk wr (w.heap.size + 1) 33 #[.int .i64 0, .int .i64 0, .int .i64 0, .slice none 0 0] ∧ Blk wr M 33 (boW b va k vc) ∧ wr.ownsRow (M + 1) 44 4 (.slice va k vc) k (flt Ne.rcL ((b.fs.take k).map (Ne.mrF b))) ∧ Below w.heap.size w wr ∧ M + 1 ≤ wr.heap.size) (fun i _ => f - (intOf i).toNat)
  case atStart => exact ⟨0, none, 0, Nat.zero_le _, rfl, bB2, bR2, bM2, World.ownsRow_nil _ _ _ _, hW2, by rw [hsz]; exact Nat.le_refl _⟩
  case round =>
    clear bB2 bR2 bM2 hW2 hsz
    obtain ⟨k, va, vc, hk, rfl, bB, bR, bM, hO, hb, hszr⟩ := hrel
    by_cases hlt : k < f
    · obtain ⟨gq, oq, hCe, hg, hc⟩ := (HF0.out.below hb).at (z := Ne.zr) (by rw [HNF.out]; omega)
      subst hCe
      have hck := hc k (by rw [HNF.out]; exact hlt)
      have hbd := HFB.out k hlt
      have HT := Lib.hid (HTK.out k hlt)
      obtain ⟨p, hp⟩ : ∃ p, b.fs.getD k Ne.zr = p := ⟨_, rfl⟩
      rw [hp] at hck hbd HT
      obtain ⟨px, py, pw, ph⟩ := p
      dsimp only at hbd
      obtain ⟨⟨x1, x2⟩, x3, x4⟩ := hbd
      have hwr1 : IntKind.i64.wrap (b.w - px) = b.w - px := IntWalk.i64_in _ (by omega)
      have hwr2 : IntKind.i64.wrap (b.w - px - pw) = b.w - px - pw := IntWalk.i64_in _ (by omega)
      have p0 : (wr.alloc (.cells #[.int .i64 px, .int .i64 py, .int .i64 pw, .int .i64 ph] 44)).cell? ⟨w.heap.size, 0, none⟩ = some (.int .i64 b.w) := ((bB.alloc _).cell 0).trans rfl
      have p3 := ((bM.alloc (.cells #[.int .i64 (b.w - px - pw), .int .i64 py, .int .i64 pw, .int .i64 ph] 44)).cell 3)
      simp only [List.getElem?_toArray, List.getElem?_cons_zero, List.getElem?_cons_succ] at p3
      have hO2 := hO.alloc (.cells #[.int .i64 (b.w - px - pw), .int .i64 py, .int .i64 pw, .int .i64 ph] 44)
      have hb2 := hb.alloc hb.size (.cells #[.int .i64 (b.w - px - pw), .int .i64 py, .int .i64 pw, .int .i64 ph] 44)
      have bB2 := bB.alloc (.cells #[.int .i64 (b.w - px - pw), .int .i64 py, .int .i64 pw, .int .i64 ph] 44)
      have bR2 := bR.alloc (.cells #[.int .i64 (b.w - px - pw), .int .i64 py, .int .i64 pw, .int .i64 ph] 44)
      have bM2 := bM.alloc (.cells #[.int .i64 (b.w - px - pw), .int .i64 py, .int .i64 pw, .int .i64 ph] 44)
      have rN : (wr.alloc (.cells #[.int .i64 (b.w - px - pw), .int .i64 py, .int .i64 pw, .int .i64 ph] 44)).rangeAt wr.heap.size 0 (Ne.rcL ⟨b.w - px - pw, py, pw, ph⟩) := (Blk.new wr 44 #[.int .i64 (b.w - px - pw), .int .i64 py, .int .i64 pw, .int .i64 ph]).range
      have hszf : (wr.alloc (.cells #[.int .i64 (b.w - px - pw), .int .i64 py, .int .i64 pw, .int .i64 ph] 44)).heap.size = wr.heap.size + 1 := World.size_alloc _ _
      have hlm : (k : Int) < (f : Int) := by omega
      clear hc hp hO bB bR bM hb
      go_wp2_with (first | refine ldm_rc hck (by rfl) _ rfl rfl ?_ | refine ldm_rc rN (by rfl) _ rfl rfl (Hid.out ?_))
      refine Lib.hid ?_
      have HLT := Lib.hid hO2.lt
      have HO3 := Lib.hid (hO2.alloc (.cells (Ne.rcL ⟨b.w - px - pw, py, pw, ph⟩).toArray 44))
      generalize hwf : wr.alloc (.cells #[.int .i64 (b.w - px - pw), .int .i64 py, .int .i64 pw, .int .i64 ph] 44) = wf at *
      have HB3 := Lib.hid (hb2.alloc hb2.size (.cells (Ne.rcL ⟨b.w - px - pw, py, pw, ph⟩).toArray 44))
      have HBB := Lib.hid (bB2.alloc (.cells (Ne.rcL ⟨b.w - px - pw, py, pw, ph⟩).toArray 44))
      have HBR := Lib.hid (bR2.alloc (.cells (Ne.rcL ⟨b.w - px - pw, py, pw, ph⟩).toArray 44))
      have HBM := Lib.hid (bM2.alloc (.cells (Ne.rcL ⟨b.w - px - pw, py, pw, ph⟩).toArray 44))
      have HSZ : Hid (M + 1 ≤ (wf.alloc (.cells (Ne.rcL ⟨b.w - px - pw, py, pw, ph⟩).toArray 44)).heap.size) := Lib.hid (by rw [World.size_alloc]; omega)
      clear hO2 hck p0 rN hwr1 hwr2 hwf hszf bB2 bR2 bM2 hb2
      go_wp2_with (at_builtin; refine wpList_append_own _ rfl _ _ 31 rfl (M + 1) 44 i0 _ 4 32 Try.underlying31 hi0 hz0 hn0 hy0 rfl (by decide) _ _ _ rfl HO3.out ⟨wf.heap.size, 0, none⟩ 1 1 (Ne.rcL ⟨b.w - px - pw, py, pw, ph⟩) rfl rfl (new_rc wf ⟨b.w - px - pw, py, pw, ph⟩) (Ne.encRc.one _) (by unfold maxLen; omega) (by omega) HSZ.out ?_; intro v9 w9 hown9 hgrow9 hfx9; obtain ⟨va9, vc9, rfl⟩ := own_slice hown9; have hne9 : (Value.slice va k vc).ownBlock ≠ some (M) := fun e => by { have := (HLT.out _ e).1; omega }; have bM9 := blk_grown HBM.out hgrow9 hne9; have m9 := bM9.cell 3; have f9 := bM9.frozen 3; simp only [List.getElem?_toArray, List.getElem?_cons_zero, List.getElem?_cons_succ] at m9)
      have hneB : (Value.slice va k vc).ownBlock ≠ some w.heap.size := fun e => by have := (HLT.out _ e).1; have := HRW.out; omega
      have hneR : (Value.slice va k vc).ownBlock ≠ some (w.heap.size + 1) := fun e => by have := (HLT.out _ e).1; have := HRW.out; omega
      have bB9 := (blk_grown HBB.out hgrow9 hneB).far (p := ⟨M, 3, none⟩) (by show w.heap.size ≠ M; have := HRW.out; omega) (.slice va9 (k + 1) vc9)
      have bR9 := (blk_grown HBR.out hgrow9 hneR).far (p := ⟨M, 3, none⟩) (by show w.heap.size + 1 ≠ M; have := HRW.out; omega) (.slice va9 (k + 1) vc9)
      have bM8 : Blk (w9.setCell ⟨M, 3, none⟩ (.slice va9 (k + 1) vc9)) (M) 33 (boW b va9 (k + 1) vc9) := bM9.set_ 3 (.slice va9 (k + 1) vc9)
      have hb8 := HB3.out.grown hgrow9 HB3.out.size (fun s e => by have := (HLT.out s e).1; have := HRW.out; omega)
      have hb9 := hb8.setCell (p := ⟨M, 3, none⟩) (by show w.heap.size ≤ M; have := HRW.out; omega) (.slice va9 (k + 1) vc9)
      have hsz9 : wf.heap.size + 1 ≤ w9.heap.size := by have hg9 := hgrow9; obtain ⟨_, _, _, g4, _⟩ := hg9; rw [World.size_alloc] at g4; exact g4
      have hO9 : (w9.setCell ⟨M, 3, none⟩ (.slice va9 (k + 1) vc9)).ownsRow (M + 1) 44 4 (.slice va9 (k + 1) vc9) (k + 1) (flt Ne.rcL ((b.fs.take (k + 1)).map (Ne.mrF b))) := by
        rw [HT.out, flt_append, flt_one]
        exact own_onlyE (Only.setCell _ _ _ _) hown9 (fun e => by have := (hown9.lt _ e).1; omega)
      have hs2 := HSZ.out
      rw [World.size_alloc] at hs2
      have hszs : (w9.setCell ⟨M, 3, none⟩ (.slice va9 (k + 1) vc9)).heap.size = w9.heap.size := by simp [World.setCell]
      exact ⟨⟨k + 1, va9, vc9, by omega, by go_num, bB9, bR9, bM8, hO9, hb9, by rw [hszs]; omega⟩, by simp [intOf]; omega⟩
    · obtain rfl : f = k := by omega
      rw [List.take_of_length_le (by rw [HNF.out]; exact Nat.le_refl _)] at hO
      have hO' : wr.ownsRow (M + 1) 44 4 (.slice va f vc) (b.fs.map (Ne.mrF b)).length (flt Ne.rcL (b.fs.map (Ne.mrF b))) := by rw [List.length_map, HNF.out]; exact hO
      obtain ⟨A9, c9, he, hr9, hc9, hm9⟩ := rows_of_owns Ne.encRc hO'
      rw [List.length_map, HNF.out] at he hc9
      injection he with e1 e2 e3
      obtain rfl : A9 = va := e1.symm
      obtain rfl : c9 = vc := e3.symm
      have HR9 := Lib.hid hr9
      have HLT9 := Lib.hid (fun g (e : (Value.slice A9 f c9).ownBlock = some g) => (hO'.lt g e).1)
      clear hO hO' hr9 hc9 hm9 e1 e2 e3
      obtain ⟨wa, rfl⟩ : ∃ wa, wa = wr := ⟨_, rfl⟩
      go_wp2
      go_loopw [15, 59] (fun v i wr => ∃ k : Nat, k ≤ m ∧ i = .int .i64 k ∧ Ne.PRow wr wa.heap.size v ((ps.take k).map Ne.mrP) ∧ Below wa.heap.size wa wr) (fun _ i _ => m - (intOf i).toNat)
      case atStart => exact ⟨0, Nat.zero_le _, rfl, Ne.PRow.nil _ _, Below.refl _ _⟩
      case round =>
        obtain ⟨k, hk, rfl, hO, hb2⟩ := hrel
        by_cases hlt : k < m
        · obtain ⟨gp, op, hBe, hgp, hcp⟩ := (HP0.out.below (hb.trans (hb2.mono hb.size))).open (by rw [HM.out]; omega)
          subst hBe
          obtain ⟨D, dc, d1, d2, d3, d4⟩ := hcp k (by rw [HM.out]; exact hlt)
          have hvk := HVA.out k hlt
          have HT := Lib.hid (take_mapP (ps := ps) (k := k) (by rw [HM.out]; exact hlt))
          obtain ⟨q, hq⟩ : ∃ q, ps.getD k Ne.za = q := ⟨_, rfl⟩
          rw [hq] at d1 d2 d3 d4 hvk HT
          obtain ⟨qo, qt⟩ := q
          dsimp only at d1 d2 d3 d4 hvk
          obtain ⟨N, hN⟩ : ∃ N, qo.length = N := ⟨_, rfl⟩
          rw [hN] at d1 d4
          have HMK := Lib.hid (HMI.out D qo N dc hN hvk)
          have hal := (Below.refl wr.heap.size wr).alloc (Nat.le_refl _) (.cells #[.slice D N dc, .bool qt] 68)
          have hb3 := hb2.alloc hb2.size (.cells #[.slice D N dc, .bool qt] 68)
          have HD := Lib.hid (d3.below hal)
          have bN := Blk.new wr 68 #[.slice D N dc, .bool qt]
          have HO := Lib.hid hO
          have HLN : Hid ((Ne.mrP ⟨qo, qt⟩).o.length = N) := Lib.hid (by unfold Ne.mrP; simp only; rw [Geo.canon_length, mirL_len, hN])
          have HL60 : Hid (((ps.take k).map Ne.mrP).length ≤ 60) := Lib.hid (by rw [List.length_map, List.length_take, HM.out]; omega)
          have hlm : (k : Int) < (m : Int) := by omega
          have p0 := bN.cell 0
          simp only [List.getElem?_toArray, List.getElem?_cons_zero] at p0
          have hsz1 : (wr.alloc (.cells #[.slice D N dc, .bool qt] 68)).heap.size = wr.heap.size + 1 := World.size_alloc _ _
          have HSZ1 := Lib.hid hsz1
          clear hcp hq hvk hN d3 hO hsz1
          go_wp2_with fail
          refine (HMK.out _ HD.out).mono ?_
          rintro e w3 ⟨A1, c1, rfl, hp3, hc3, ha3, hb4⟩
          have hb5 := hb3.trans (hb4.mono hb3.size)
          have hal3 := hal.trans (hb4.mono hal.size)
          have bN3 := bN.below hb4 bN.lt
          have q0 := bN3.cell 0
          have f0 := bN3.frozen 0
          simp only [List.getElem?_toArray, List.getElem?_cons_zero] at q0
          have bN4 : Blk (w3.setCell ⟨wr.heap.size, 0, none⟩ (.slice A1 N c1)) wr.heap.size 68 #[.slice A1 N c1, .bool qt] := bN3.set_ 0 (.slice A1 N c1)
          have r0 := bN4.cell 0
          have r1 := bN4.cell 1
          simp only [List.getElem?_toArray, List.getElem?_cons_zero, List.getElem?_cons_succ] at r0 r1
          have hal4 := hal3.setCell (p := ⟨wr.heap.size, 0, none⟩) (Nat.le_refl _) (.slice A1 N c1)
          have hb6 := hb5.setCell (p := ⟨wr.heap.size, 0, none⟩) hb2.size (.slice A1 N c1)
          have hp4 : Pts (w3.setCell ⟨wr.heap.size, 0, none⟩ (.slice A1 N c1)) A1 (Geo.canon (mirL qo)) := pts_only hp3 (Only.setCell _ _ _ _) (fun g off e => by have h1 := ha3 g off e; have := HSZ1.out; omega)
          have hszs : (w3.setCell ⟨wr.heap.size, 0, none⟩ (.slice A1 N c1)).heap.size = w3.heap.size := by simp [World.setCell]
          have hO4 := HO.out.below hal4
          have HALN := Lib.hid ((Below.refl (w3.setCell ⟨wr.heap.size, 0, none⟩ (.slice A1 N c1)).heap.size (w3.setCell ⟨wr.heap.size, 0, none⟩ (.slice A1 N c1))).alloc (Nat.le_refl _) (.cells #[.slice A1 N c1, .bool qt] 68))
          have HO5 := Lib.hid (hO4.below HALN.out)
          have HP5 := Lib.hid (hp4.below HALN.out)
          have HB5 := Lib.hid (hb6.alloc hb6.size (.cells #[.slice A1 N c1, .bool qt] 68))
          have hbn := Blk.new (w3.setCell ⟨wr.heap.size, 0, none⟩ (.slice A1 N c1)) 68 #[.slice A1 N c1, .bool qt]
          rw [hszs] at hbn
          have HBN := Lib.hid hbn
          clear hbn
          have HC3 := Lib.hid hc3
          have HA5 : Hid (∀ g off, A1 = some ⟨g, off, none⟩ → (Value.ownBlock u15 ≠ some g ∧ g < ((w3.setCell ⟨wr.heap.size, 0, none⟩ (.slice A1 N c1)).alloc (.cells #[.slice A1 N c1, .bool qt] 68)).heap.size) ∧ wa.heap.size ≤ g) := Lib.hid (fun g off e => by
            have h1 := ha3 g off e
            have h2 := hb2.size
            have h3 := HSZ1.out
            refine ⟨⟨fun e2 => ?_, by rw [World.size_alloc, hszs]; omega⟩, by omega⟩
            have := (HO.out.lt e2).2
            omega)
          clear hp3 hc3 ha3 hal hal3 hal4 bN bN3 bN4 hp4 hO4 hb3 hb4 hb5 hb6 hszs p0
          go_wp2_with (at_builtin; refine wpl_push rfl _ _ rfl wa.heap.size u15 _ rfl HO5.out HL60.out (Ne.mrP ⟨qo, qt⟩) w3.heap.size A1 N c1 rfl HBN.out HP5.out HLN.out HC3.out HA5.out HB5.out.size ?_; intro v9 w9 hO9 hgrow9 hb9)
          have hb10 := HB5.out.trans (hb9.mono (Nat.le_refl _))
          have HO9 : Hid (Ne.PRow w9 wa.heap.size v9 ((ps.take (k + 1)).map Ne.mrP)) := Lib.hid (by rw [HT.out]; exact hO9)
          clear hO9 hgrow9 hb9
          go_wp2
          go_roundw
          case rel => exact ⟨k + 1, by omega, by go_num, HO9.out, hb10⟩
          case measure => simp [intOf]; omega
        · obtain rfl : m = k := by omega
          rw [List.take_of_length_le (by rw [HM.out]; exact Nat.le_refl _)] at hO
          obtain ⟨A8, c8, rfl, h1, h2, h3⟩ := hO.mem
          have HP8 := Lib.hid h1
          rw [List.length_map, HM.out]
          clear hO h1 h2 h3
          obtain ⟨wb, rfl⟩ : ∃ wb, wb = wr := ⟨_, rfl⟩
          have bB3 := bB.below hb2 bB.lt
          go_wp2
          go_loopw [18, 77] (fun v i wr => ∃ k : Nat, k ≤ n ∧ i = .int .i64 k ∧ wr.ownsRow wb.heap.size 40 4 v k (flt Ne.pcL ((pl.take k).map (Ne.mrL b))) ∧ Below wb.heap.size wb wr) (fun _ i _ => n - (intOf i).toNat)
          case atStart => exact ⟨0, Nat.zero_le _, rfl, World.ownsRow_nil _ _ _ _, Below.refl _ _⟩
          case round =>
            obtain ⟨k, hk, rfl, hO, hb3a⟩ := hrel
            by_cases hlt : k < n
            · obtain ⟨gq, oq, hCe, hg, hc⟩ := (HL0.out.below ((hb.trans (hb2.mono hb.size)).trans (hb3a.mono (hb.trans (hb2.mono hb.size)).size))).at (z := Ne.zc) (by rw [HN.out]; omega)
              subst hCe
              have hck := hc k (by rw [HN.out]; exact hlt)
              have hxk := HX.out k hlt
              have HT : Hid ((pl.take (k + 1)).map (Ne.mrL b) = (pl.take k).map (Ne.mrL b) ++ [Ne.mrL b (pl.getD k Ne.zc)]) := Lib.hid (by
                rw [List.take_add_one, List.getElem?_eq_getElem (by rw [HN.out]; exact hlt), Ne.getD_lt (by rw [HN.out]; exact hlt), List.map_append]; rfl)
              obtain ⟨p, hp⟩ : ∃ p, pl.getD k Ne.zc = p := ⟨_, rfl⟩
              rw [hp] at hck hxk HT
              obtain ⟨pp, px, py, pt⟩ := p
              dsimp only at hxk
              obtain ⟨x1, x2⟩ := hxk
              have hwr : IntKind.i64.wrap (b.w - px) = b.w - px := IntWalk.i64_in _ (by omega)
              have bB1 := (bB.below hb2 bB.lt).below hb3a (Blk.lt (bB.below hb2 bB.lt))
              have p0 : (wr.alloc (.cells #[.int .i64 pp, .int .i64 px, .int .i64 py, .bool pt] 40)).cell? ⟨w.heap.size, 0, none⟩ = some (.int .i64 b.w) := ((bB1.alloc _).cell 0).trans rfl
              have hO2 := hO.alloc (.cells #[.int .i64 pp, .int .i64 (b.w - px), .int .i64 py, .bool pt] 40)
              have hb4 := hb3a.alloc hb3a.size (.cells #[.int .i64 pp, .int .i64 (b.w - px), .int .i64 py, .bool pt] 40)
              have bN := Blk.new wr 40 #[.int .i64 pp, .int .i64 (b.w - px), .int .i64 py, .bool pt]
              have rN : (wr.alloc (.cells #[.int .i64 pp, .int .i64 (b.w - px), .int .i64 py, .bool pt] 40)).rangeAt wr.heap.size 0 (Ne.pcL ⟨pp, b.w - px, py, pt⟩) := bN.range
              have hlm : (k : Int) < (n : Int) := by omega
              clear hc hp hO
              go_wp2_with (first | refine ldm_pc hck (by rfl) _ rfl rfl ?_ | refine ldm_pc rN (by rfl) _ rfl rfl (Hid.out ?_))
              refine Lib.hid ?_
              have HO3 := Lib.hid (hO2.alloc (.cells (Ne.pcL ⟨pp, b.w - px, py, pt⟩).toArray 40))
              have hlt3 := hO2.lt
              generalize hwf : wr.alloc (.cells #[.int .i64 pp, .int .i64 (b.w - px), .int .i64 py, .bool pt] 40) = wf at *
              have hb5 := hb4.alloc hb4.size (.cells (Ne.pcL ⟨pp, b.w - px, py, pt⟩).toArray 40)
              have HB3 := Lib.hid hb5
              clear hO2 hck p0 rN bN hwr hwf
              go_wp2_with (at_builtin; refine wpList_append_own _ rfl _ _ 35 rfl wb.heap.size 40 i1 _ 4 32 Try.underlying35 hi1 hz1 hn1 hy1 rfl (by decide) _ _ _ rfl HO3.out ⟨wf.heap.size, 0, none⟩ 1 1 (Ne.pcL ⟨pp, b.w - px, py, pt⟩) rfl rfl (new_pc wf ⟨pp, b.w - px, py, pt⟩) (Ne.encPc.one _) (by unfold maxLen; omega) (by omega) HB3.out.size ?_; intro v9 w9 hown9 hgrow9 _)
              have hb9 := HB3.out.grown hgrow9 HB3.out.size (fun s e => (HO3.out.lt s e).1)
              have HO9 : Hid (w9.ownsRow wb.heap.size 40 4 v9 (k + 1) (flt Ne.pcL ((pl.take (k + 1)).map (Ne.mrL b)))) := Lib.hid (by rw [HT.out, flt_append, flt_one]; exact hown9)
              clear hown9 hgrow9
              go_wp2
              go_roundw
              case rel => exact ⟨k + 1, by omega, by go_num, HO9.out, hb9⟩
              case measure => simp [intOf]; omega
            · obtain rfl : n = k := by omega
              rw [List.take_of_length_le (by rw [HN.out]; exact Nat.le_refl _)] at hO
              have hO' : wr.ownsRow wb.heap.size 40 4 u18 (pl.map (Ne.mrL b)).length (flt Ne.pcL (pl.map (Ne.mrL b))) := by rw [List.length_map, HN.out]; exact hO
              have hlt3 := hO.lt
              obtain ⟨A3, c3, rfl, hr3, hc3, _⟩ := rows_of_owns Ne.encPc hO'
              rw [List.length_map, HN.out] at hlt3 ⊢
              have bR9 := (bR.below hb2 bR.lt).below hb3a (Blk.lt (bR.below hb2 bR.lt))
              have bM9 := (bM.below hb2 bM.lt).below hb3a (Blk.lt (bM.below hb2 bM.lt))
              have hrM := bM9.range
              have g1 := (HR9.out.below hb2).below hb3a
              have g2 := HP8.out.below hb3a
              have hbx := (hb.trans (hb2.mono hb.size)).trans (hb3a.mono (hb.trans (hb2.mono hb.size)).size)
              have hs2 := hb2.size
              have hwR := HRW.out
              have HALL := Lib.hid (fun w9 (hO9 : Only (w.heap.size + 1) wr w9) => show Rows Ne.rcL 4 w9 A9 (Ne.mrB b).fs ∧ Ne.PaM w9 A8 (ps.map Ne.mrP) ∧ Rows Ne.pcL 4 w9 A3 (pl.map (Ne.mrL b)) ∧ Below w.heap.size w w9 from
                ⟨rows_only g1 hO9 (fun g off e => by have := HLT9.out g (by rw [e]; rfl); omega), (g2.only hO9 (by omega)).pam, rows_only hr3 hO9 (fun g off e => by have := (hlt3 g (by rw [e]; rfl)).1; omega), hbx.trans (hO9.below (by omega))⟩)
              clear hO hO' hr3 hc3 hlt3 g1 g2 hbx bM9 bB bM bR bB3
              go_wp2_with (first | refine ldm_bo hrM (by rfl) _ rfl rfl ?_ | refine st_bo (k := b) bR9 rfl rfl _ _ rfl rfl rfl ?_; intro w9 bR10 hO9)
              exact bodyPost_ret (v := .tuple #[.agg (boW (Ne.mrB b) A9 f c9), .slice A8 m c8, .slice A3 n c3, .int .i64 0]) (results_cell_tmp3 Try.results43 _ _ (w.heap.size + 1) 33 (boW b A9 f c9) (0, 0) _ rfl bR10 Try.underlying33 rfl infoBo') rfl ⟨A9, c9, A8, c8, A3, ⟨c3, rfl⟩, HALL.out _ hO9⟩
end Go.Proofs.Ytlikmlhlfbdchaa
/- nest: boards and parts that are the same. -/
namespace Go.Proofs.Ytlikmlhlfbdchaa
open Go.RowKit Go.Shelf
set_option linter.unusedVariables false
set_option maxRecDepth 100000 in
set_option maxHeartbeats 4000000 in
theorem same_bo (X : Ne.Bo) (A B : Option Addr) (n c c' : Nat) (hn : X.fs.length = n) (h : n ≤ 100000) (w : World) (hA : Rows Ne.rcL 4 w A X.fs) (hB : Rows Ne.rcL 4 w B X.fs) :
    Calls Try.prog 44 #[.agg (boW X A n c), .agg (boW X B n c')] w fun e w' => e = .returned (.bool true) ∧ Below w.heap.size w w' := by
  have hb1 := (Below.refl w.heap.size w).alloc (Nat.le_refl _) (.cells (boW X A n c) 33)
  have hbb := hb1.alloc hb1.size (.cells (boW X B n c') 33)
  have bA := (Blk.new w 33 (boW X A n c)).alloc (.cells (boW X B n c') 33)
  have bB := Blk.new (w.alloc (.cells (boW X A n c) 33)) 33 (boW X B n c')
  rw [World.size_alloc] at bB
  have HA := Lib.hid (hA.below hbb)
  have HB := Lib.hid (hB.below hbb)
  have HN := Lib.hid hn
  have hne : ((n : Int) == (n : Int)) = true := by simp
  obtain ⟨xw, xh, xg, fs⟩ := X
  dsimp only at hn HA HB HN bA bB hbb
  have h1 : (xw == xw) = true := by simp
  have h2 : (xh == xh) = true := by simp
  have h3 : (xg == xg) = true := by simp
  have p0 := bA.cell 0
  have p1 := bA.cell 1
  have p2 := bA.cell 2
  have p3 := bA.cell 3
  have q0 := bB.cell 0
  have q1 := bB.cell 1
  have q2 := bB.cell 2
  have q3 := bB.cell 3
  simp only [List.getElem?_toArray, List.getElem?_cons_zero, List.getElem?_cons_succ] at p0 p1 p2 p3 q0 q1 q2 q3
  clear hA hB hn hb1
  go_enter Try.func44, Try.ntmps44
  go_wp2
  clear hne h1 h2 h3 p0 p1 p2 p3 q0 q1 q2 q3
  generalize hwe : (w.alloc (.cells #[.int .i64 xw, .int .i64 xh, .int .i64 xg, .slice A n c] 33)).alloc (.cells #[.int .i64 xw, .int .i64 xh, .int .i64 xg, .slice B n c'] 33) = W0 at *
  clear hwe
  go_loopw [37] (fun i wr => ∃ k : Nat, k ≤ n ∧ i = .int .i64 k ∧ Below W0.heap.size W0 wr) (fun i _ => n - (intOf i).toNat)
  case atStart => exact ⟨0, Nat.zero_le _, rfl, Below.refl _ _⟩
  case round =>
    obtain ⟨k, hk, rfl, hb⟩ := hrel
    by_cases hlt : k < n
    · obtain ⟨g, off, rfl, hg, hc⟩ := (HA.out.below hb).at (z := Ne.zr) (by rw [HN.out]; omega)
      obtain ⟨g2, off2, rfl, hg2, hc2⟩ := (HB.out.below hb).at (z := Ne.zr) (by rw [HN.out]; omega)
      have hck := hc k (by rw [HN.out]; exact hlt)
      have hck2 := hc2 k (by rw [HN.out]; exact hlt)
      obtain ⟨p, hp⟩ : ∃ p, fs.getD k Ne.zr = p := ⟨_, rfl⟩
      rw [hp] at hck hck2
      have hq := run_eqRc p
      have p3 := (bA.below hb bA.lt).cell 3
      have q3 := (bB.below hb bB.lt).cell 3
      simp only [List.getElem?_toArray, List.getElem?_cons_zero, List.getElem?_cons_succ] at p3 q3
      have c0 : wr.cell? ⟨g, off + k * 4, none⟩ = some (.int .i64 p.x) := hck 0 _ rfl
      have c1 : wr.cell? ⟨g, off + k * 4 + 1, none⟩ = some (.int .i64 p.y) := hck 1 _ rfl
      have c2 : wr.cell? ⟨g, off + k * 4 + 2, none⟩ = some (.int .i64 p.w) := hck 2 _ rfl
      have c3 : wr.cell? ⟨g, off + k * 4 + 3, none⟩ = some (.int .i64 p.h) := hck 3 _ rfl
      have e0 : wr.cell? ⟨g2, off2 + k * 4, none⟩ = some (.int .i64 p.x) := hck2 0 _ rfl
      have e1 : wr.cell? ⟨g2, off2 + k * 4 + 1, none⟩ = some (.int .i64 p.y) := hck2 1 _ rfl
      have e2 : wr.cell? ⟨g2, off2 + k * 4 + 2, none⟩ = some (.int .i64 p.w) := hck2 2 _ rfl
      have e3 : wr.cell? ⟨g2, off2 + k * 4 + 3, none⟩ = some (.int .i64 p.h) := hck2 3 _ rfl
      have hlm : (k : Int) < (n : Int) := by omega
      clear hc hc2 hck hck2 hp
      go_wp2
      go_quiet (fail)
      have hb2 := Go.Proofs.Ytlikmlhlfbdchaa.Below.drewN (n := nq) hb
      generalize wr.drewN nq = wd at *
      clear c0 c1 c2 c3 e0 e1 e2 e3 hq p3 q3
      go_wp2
      go_roundw
      case rel => exact ⟨k + 1, by omega, by go_num, hb2⟩
      case measure => simp [intOf]; omega
    · obtain rfl : k = n := by omega
      go_wp2
      go_ret
      exact ⟨rfl, hbb.trans (hb.mono hbb.size)⟩
set_option maxRecDepth 100000 in
set_option maxHeartbeats 4000000 in
theorem same_pa (A B : Option Addr) (l : List Ne.Pa) (m c c' : Nat) (hm : l.length = m) (h : m ≤ 100000) (hl : ∀ k, k < m → (l.getD k Ne.za).o.length ≤ 64) (w : World) (hA : Ne.PaM w A l) (hB : Ne.PaM w B l) :
    Calls Try.prog 45 #[.slice A m c, .slice B m c'] w fun e w' => e = .returned (.bool true) ∧ Below w.heap.size w w' := by
  have HA := Lib.hid hA
  have HB := Lib.hid hB
  have HM := Lib.hid hm
  have HL := Lib.hid hl
  have hne : ((m : Int) == (m : Int)) = true := by simp
  clear hA hB hm hl
  go_enter Try.func45, Try.ntmps45
  go_wp2
  clear hne
  go_loopw [13] (fun i wr => ∃ k : Nat, k ≤ m ∧ i = .int .i64 k ∧ Below w.heap.size w wr) (fun i _ => m - (intOf i).toNat)
  case atStart => exact ⟨0, Nat.zero_le _, rfl, Below.refl _ _⟩
  case round =>
    obtain ⟨k, hk, rfl, hb⟩ := hrel
    by_cases hlt : k < m
    · obtain ⟨g, off, rfl, hg, hc⟩ := (HA.out.below hb).open (by rw [HM.out]; omega)
      obtain ⟨g2, off2, rfl, hg2, hc2⟩ := (HB.out.below hb).open (by rw [HM.out]; omega)
      obtain ⟨D1, k1, d1, d2, d3, d4⟩ := hc k (by rw [HM.out]; exact hlt)
      obtain ⟨D2, k2, f1, f2, f3, f4⟩ := hc2 k (by rw [HM.out]; exact hlt)
      have hl64 := HL.out k hlt
      obtain ⟨q, hq⟩ : ∃ q, l.getD k Ne.za = q := ⟨_, rfl⟩
      rw [hq] at d1 d2 d3 d4 f1 f2 f3 f4 hl64
      obtain ⟨qo, qt⟩ := q
      dsimp only at d1 d2 d3 d4 f1 f2 f3 f4 hl64
      obtain ⟨N, hN⟩ : ∃ N, qo.length = N := ⟨_, rfl⟩
      rw [hN] at d1 d4 f1 f4 hl64
      have HEQ : Hid (∀ s : Ext wr, Calls Try.prog 21 #[.slice D1 N k1, .slice D2 N k2] s.w fun e w' => e = .returned (.bool true) ∧ Below s.w.heap.size s.w w') := Lib.hid (fun s => equal_self D1 D2 qo k1 k2 N hN hl64 s.w (d3.below s.h) (f3.below s.h))
      have htt : (qt == qt) = true := by simp
      have p0 : ∀ s : Ext wr, s.w.cell? ⟨g, off + k * 2, none⟩ = some (.slice D1 N k1) := fun s => s.cell d1
      have p1 : ∀ s : Ext wr, s.w.cell? ⟨g, off + k * 2 + 1, none⟩ = some (.bool qt) := fun s => s.cell d2
      have q0 : ∀ s : Ext wr, s.w.cell? ⟨g2, off2 + k * 2, none⟩ = some (.slice D2 N k2) := fun s => s.cell f1
      have q1 : ∀ s : Ext wr, s.w.cell? ⟨g2, off2 + k * 2 + 1, none⟩ = some (.bool qt) := fun s => s.cell f2
      have hlm : (k : Int) < (m : Int) := by omega
      clear hc hc2 hq d1 d2 d3 d4 f1 f2 f3 f4 hN
      go_wp2
      refine wp_region_ext (by kernel_rfl) (by kernel_rfl) ?_
      repeat (go_big_quiet_step ((go_at_call 21; refine calls_ext (HEQ.out _))))
      refine wpQuiet_nil ?_
      rintro _ ⟨s, rfl⟩
      have hb2 := hb.trans (s.h.mono hb.size)
      clear p0 p1 q0 q1
      go_wp2
      go_roundw
      case rel => exact ⟨k + 1, by omega, by go_num, hb2⟩
      case measure => simp [intOf]; omega
    · obtain rfl : k = m := by omega
      go_wp2
      go_ret
      exact ⟨rfl, hb⟩
end Go.Proofs.Ytlikmlhlfbdchaa
/- nest: the law of mirrors. -/
namespace Go.Proofs.Ytlikmlhlfbdchaa
open Go.RowKit Go.Shelf
set_option linter.unusedVariables false
theorem rcan_at (A : Option Addr) (l : List Geo.XY) (n c : Nat) (hn : l.length = n) (hcap : n ≤ c) (hv : validB l = true) (w : World) (hP : Pts w A l) :
    Calls Try.prog 46 #[.slice A n c] w fun e w' => ∃ A1 c1, e = .returned (.tuple #[.slice A1 n c1, .int .i64 0]) ∧ Pts w' A1 (Geo.canon l) ∧ n ≤ c1 ∧ Below w.heap.size w w' := by
  subst hn
  refine (rcanonical A l c w hP hcap).mono ?_
  rintro e w' ⟨v, rfl, hown, hb⟩
  rw [canonV_ok hv] at hown ⊢
  obtain ⟨A1, c1, rfl, hp, hc⟩ := pts_of_owns' hown
  simp only at hp hc ⊢
  rw [Geo.canon_length] at hc ⊢
  exact ⟨A1, c1, rfl, hp, hc, hb⟩
set_option maxRecDepth 100000 in
set_option maxHeartbeats 4000000 in
theorem law_mirrors (b : Ne.Bo) (ps : List Ne.Pa) (pl : List Ne.Pc) (fA : Option Addr) (f fC : Nat) (pA : Option Addr) (m pC : Nat) (lA : Option Addr) (n lC : Nat) (hf : b.fs.length = f) (hm : ps.length = m) (hn : pl.length = n) (hfM : f ≤ 9223372036854775807) (hmM : m ≤ 9223372036854775807) (hnM : n ≤ 9223372036854775807) (hcap : n ≤ lC)
    (w : World) (hF : Rows Ne.rcL 4 w fA b.fs) (hP : Ne.PaM w pA ps) (hL : Rows Ne.pcL 4 w lA pl) :
    Calls Try.prog 8 #[.agg (dkA b fA f fC pA m pC lA n lC)] w fun e w' => e = .returned (.bool true) ∧ Below w.heap.size w w' := by
  have hB := (Below.refl w.heap.size w).alloc (Nat.le_refl _) (.cells (dkA b fA f fC pA m pC lA n lC) 37)
  have bD := Blk.new w 37 (dkA b fA f fC pA m pC lA n lC)
  have hrD := bD.range
  have HFW := Lib.hid (fun W h h' => few_b b fA f fC pA m pC lA n lC ps pl hm hn hmM hnM W h h')
  have HP := Lib.hid (hP.below hB)
  have HL := Lib.hid (hL.below hB)
  have HF := Lib.hid (hF.below hB)
  obtain ⟨I, E, hE⟩ : ∃ I E, Ne.ckA b ps pl = (I, E) := ⟨_, _, rfl⟩
  by_cases h0 : E = 0
  case neg =>
    have hne : (E == 0) = false := by simp; exact h0
    have hee : (E == E) = true := by simp
    have HM1 := Lib.hid (fun W h h' h'' => Mirror_err b fA pA lA ps pl f fC m pC n lC hf hm hn I E hE h0 W h h' h'')
    have HM2 := Lib.hid (fun W h h' h'' => rMirror_err b fA pA lA ps pl f fC m pC n lC hf hm hn hfM hmM hcap I E hE h0 W h h' h'')
    have HSB := Lib.hid (fun W => same_bo ⟨0, 0, 0, []⟩ none none 0 0 0 rfl (by omega) W (.inl rfl) (.inl rfl))
    have HSP := Lib.hid (fun W => same_pa none none [] 0 0 0 rfl (by omega) (fun k hk => by omega) W (.inl rfl) (.inl rfl))
    have HSL := Lib.hid (fun W => same_pl none none [] 0 0 0 rfl (by omega) W (.inl rfl) (.inl rfl))
    clear hP hL hF hm hn hf hE hmM hfM hcap hnM
    go_enter Try.func8, Try.ntmps8
    go_wp2_with (refine ldm_dk hrD (by rfl) _ rfl rfl ?_)
    refine (HFW.out _ HP.out HL.out).mono ?_
    rintro e w1 ⟨⟨r0, rfl, _⟩, b1⟩
    have hB1 := hB.trans (b1.mono hB.size)
    have bD1 := bD.below b1 bD.lt
    have HP1 := Lib.hid (HP.out.below b1)
    have HF1 := Lib.hid (HF.out.below b1)
    have HL1 := Lib.hid (HL.out.below b1)
    clear bD HP HL HF hrD hB b1 HFW
    cases r0 with
    | false =>
      go_wp2_with fail
      refine (awake_any _).mono ?_
      rintro e wz ⟨rfl, bz⟩
      go_wp2
      go_ret
      exact ⟨rfl, hB1.trans (bz.mono hB1.size)⟩
    | true =>
      have hb1 := desk_board bD1.range
      have q4 := bD1.cell 4
      have q5 := bD1.cell 5
      simp only [List.getElem?_toArray, List.getElem?_cons_zero, List.getElem?_cons_succ] at q4 q5
      go_wp2_with (refine ldm_bo hb1 (by rfl) _ rfl rfl (Hid.out ?_))
      refine Lib.hid ?_
      go_wp2_with fail
      refine (HM1.out _ HF1.out HP1.out HL1.out).mono ?_
      rintro e w2 ⟨rfl, b2⟩
      have hB2 := hB1.trans (b2.mono hB1.size)
      have bD2 := bD1.below b2 bD1.lt
      have HP2 := Lib.hid (HP1.out.below b2)
      have HF2 := Lib.hid (HF1.out.below b2)
      have HL2 := Lib.hid (HL1.out.below b2)
      clear bD1 b2 HP1 HF1 HL1 
      clear hb1 q4 q5
      have b3 := (Below.refl w2.heap.size w2).alloc (Nat.le_refl _) (.cells #[.int .i64 0, .int .i64 0, .int .i64 0, .slice none 0 0] 33)
      have bY3 := Blk.new w2 33 #[.int .i64 0, .int .i64 0, .int .i64 0, .slice none 0 0]
      have hB3 := hB2.trans (b3.mono hB2.size)
      have bD3 := bD2.below b3 bD2.lt
      have HP3 := Lib.hid (HP2.out.below b3)
      have HF3 := Lib.hid (HF2.out.below b3)
      have HL3 := Lib.hid (HL2.out.below b3)
      clear bD2 b3 HP2 HF2 HL2 
      have hb1 := desk_board bD3.range
      have q4 := bD3.cell 4
      have q5 := bD3.cell 5
      simp only [List.getElem?_toArray, List.getElem?_cons_zero, List.getElem?_cons_succ] at q4 q5
      go_wp2_with (refine ldm_bo hb1 (by rfl) _ rfl rfl (Hid.out ?_))
      refine Lib.hid ?_
      go_wp2_with fail
      refine (HM2.out _ HF3.out HP3.out HL3.out).mono ?_
      rintro e w4 ⟨rfl, b4⟩
      have hB4 := hB3.trans (b4.mono hB3.size)
      have bD4 := bD3.below b4 bD3.lt
      have HP4 := Lib.hid (HP3.out.below b4)
      have HF4 := Lib.hid (HF3.out.below b4)
      have HL4 := Lib.hid (HL3.out.below b4)
      have bY4 := bY3.below b4 bY3.lt
      clear bD3 b4 HP3 HF3 HL3 bY3
      clear hb1 q4 q5
      have b5 := (Below.refl w4.heap.size w4).alloc (Nat.le_refl _) (.cells #[.int .i64 0, .int .i64 0, .int .i64 0, .slice none 0 0] 33)
      have bZ5 := Blk.new w4 33 #[.int .i64 0, .int .i64 0, .int .i64 0, .slice none 0 0]
      have hB5 := hB4.trans (b5.mono hB4.size)
      have bD5 := bD4.below b5 bD4.lt
      have HP5 := Lib.hid (HP4.out.below b5)
      have HF5 := Lib.hid (HF4.out.below b5)
      have HL5 := Lib.hid (HL4.out.below b5)
      have bY5 := bY4.below b5 bY4.lt
      clear bD4 b5 HP4 HF4 HL4 bY4
      have rY : World.rangeAt _ w2.heap.size 0 (boW ⟨0, 0, 0, []⟩ none 0 0).toList := bY5.range
      have rZ : World.rangeAt _ w4.heap.size 0 (boW ⟨0, 0, 0, []⟩ none 0 0).toList := bZ5.range
      go_wp2_with (first | refine ldm_bo (s := ⟨0, 0, 0, []⟩) (A := none) (n := 0) (c := 0) rY (by rfl) _ rfl rfl ?_ | refine ldm_bo (s := ⟨0, 0, 0, []⟩) (A := none) (n := 0) (c := 0) rZ (by rfl) _ rfl rfl (Hid.out ?_))
      refine Lib.hid ?_
      go_wp2_with fail
      refine (HSB.out _).mono ?_
      rintro e w6 ⟨rfl, b6⟩
      have hB6 := hB5.trans (b6.mono hB5.size)
      clear rY rZ bY5 bZ5 bD5
      go_wp2_with fail
      refine (HSP.out _).mono ?_
      rintro e w7 ⟨rfl, b7⟩
      have hB7 := hB6.trans (b7.mono hB6.size)
      go_wp2_with fail
      refine (HSL.out _).mono ?_
      rintro e w8 ⟨rfl, b8⟩
      have hB8 := hB7.trans (b8.mono hB7.size)
      go_wp2_with fail
      refine (awake_any _).mono ?_
      rintro e wz ⟨rfl, bz⟩
      go_wp2
      go_ret
      exact ⟨rfl, hB8.trans (bz.mono hB8.size)⟩
  case pos =>
    subst h0
    have hrl := Ne.rl_of (b := b) (ps := ps) (pl := pl) (by rw [hE])
    have hE' : Ne.ckA b ps pl = (0, 0) := Ne.rl_ck hrl
    obtain ⟨hvb, hvp⟩ := Ne.vAll_and hrl.va
    have h200 := hrl.len
    have h60 := Ne.vPa_len hvp
    rw [hn] at h200
    rw [hm] at h60
    have hvi := Ne.vBo_in hvb
    have h10 : f ≤ 10 := by omega
    have hmk : Ne.ckA (Ne.mrB b) (ps.map Ne.mrP) (pl.map (Ne.mrL b)) = (0, 0) := Ne.rl_ck hrl.mir
    obtain ⟨R, hR⟩ : ∃ R, Ne.wsK b ps pl pl.length = R := ⟨_, rfl⟩
    have hW1 : Ne.wsA b ps pl = (R, 0) := by unfold Ne.wsA; rw [hE', if_pos rfl, hR]
    have hW2 : Ne.wsA (Ne.mrB b) (ps.map Ne.mrP) (pl.map (Ne.mrL b)) = (R, 0) := by
      unfold Ne.wsA; rw [hmk, if_pos rfl, List.length_map, Ne.wsK_mir (fun p hp => Ne.rg_ls (hrl.rg p hp)) _ (Nat.le_refl _), hR]
    have hf2 : (Ne.mrB b).fs.length = f := by rw [← hf]; show (b.fs.map _).length = _; rw [List.length_map]
    have hm2 : (ps.map Ne.mrP).length = m := by rw [List.length_map, hm]
    have hn2 : (pl.map (Ne.mrL b)).length = n := by rw [List.length_map, hn]
    have hval := fun k (hk : k < m) => valid_of (Ne.vPa_at hvp (q := k) (by omega))
    have HVA := Lib.hid hval
    have HM1 := Lib.hid (fun W h h' h'' => Mirror_ok b fA pA lA ps pl f fC m pC n lC hf hm hn hE' W h h' h'')
    have HM2 := Lib.hid (fun W h h' h'' => rMirror_ok b fA pA lA ps pl f fC m pC n lC hf hm hn hfM hmM hcap hE' W h h' h'')
    have HM3 := Lib.hid (fun A B C c1 c2 c3 W h h' h'' => Mirror_ok (Ne.mrB b) A B C (ps.map Ne.mrP) (pl.map (Ne.mrL b)) f c1 m c2 n c3 hf2 hm2 hn2 hmk W h h' h'')
    have HWA := Lib.hid (fun A B C c1 c2 c3 W h h' h'' => Waste_b (Ne.mrB b) A B C (ps.map Ne.mrP) (pl.map (Ne.mrL b)) f c1 m c2 n c3 hf2 hm2 hn2 R 0 hW2 W h h' h'')
    have HWB := Lib.hid (fun W h h' h'' => Waste_b b fA pA lA ps pl f fC m pC n lC hf hm hn R 0 hW1 W h h' h'')
    have HSB := Lib.hid (fun A B c c' W h h' => same_bo (Ne.mrB b) A B f c c' hf2 (by omega) W h h')
    have HSP := Lib.hid (fun A B c c' W h h' => same_pa A B (ps.map Ne.mrP) m c c' hm2 (by omega) (fun k hk => by
      rw [Ne.getD_mapP (by omega)]
      show (Geo.canon (mirL (ps.getD k Ne.za).o)).length ≤ 64
      rw [Geo.canon_length, mirL_len]
      exact (hval k hk).2.1) W h h')
    have HSL := Lib.hid (fun A B c c' W h h' => same_pl A B (pl.map (Ne.mrL b)) n c c' hn2 (by omega) W h h')
    have HSB2 := Lib.hid (fun A B c c' W h h' => same_bo b A B f c c' hf (by omega) W h h')
    have HSL2 := Lib.hid (fun A B c c' W h h' => same_pl A B pl n c c' hn (by omega) W h h')
    have HBK := Lib.hid (And.intro (Ne.mrB_back b) (Ne.mrL_back b pl))
    have hrr : (R == R) = true := by simp
    have hmm : ((m : Int) == (m : Int)) = true := by simp
    have HMN := Lib.hid hm
    clear hP hL hF hn hf hE hE' hmM hfM hcap hnM hrl hvb hvp hvi hmk hR hW1 hW2 hf2 hm2 hn2 hval hm
    go_enter Try.func8, Try.ntmps8
    go_wp2_with (refine ldm_dk hrD (by rfl) _ rfl rfl ?_)
    refine (HFW.out _ HP.out HL.out).mono ?_
    rintro e w1 ⟨⟨r0, rfl, _⟩, b1⟩
    have hB1 := hB.trans (b1.mono hB.size)
    have bD1 := bD.below b1 bD.lt
    have HP1 := Lib.hid (HP.out.below b1)
    have HF1 := Lib.hid (HF.out.below b1)
    have HL1 := Lib.hid (HL.out.below b1)
    clear bD HP HL HF hrD hB b1 HFW
    cases r0 with
    | false =>
      go_wp2_with fail
      refine (awake_any _).mono ?_
      rintro e wz ⟨rfl, bz⟩
      go_wp2
      go_ret
      exact ⟨rfl, hB1.trans (bz.mono hB1.size)⟩
    | true =>
      have hb1 := desk_board bD1.range
      have q4 := bD1.cell 4
      have q5 := bD1.cell 5
      simp only [List.getElem?_toArray, List.getElem?_cons_zero, List.getElem?_cons_succ] at q4 q5
      go_wp2_with (refine ldm_bo hb1 (by rfl) _ rfl rfl (Hid.out ?_))
      refine Lib.hid ?_
      go_wp2_with fail
      refine (HM1.out _ HF1.out HP1.out HL1.out).mono ?_
      rintro e w2 ⟨A1, c1, A2, c2, A3, c3, rfl, r1, r2, r3, hcc, b2⟩
      have hB2 := hB1.trans (b2.mono hB1.size)
      have bD2 := bD1.below b2 bD1.lt
      have HP2 := Lib.hid (HP1.out.below b2)
      have HF2 := Lib.hid (HF1.out.below b2)
      have HL2 := Lib.hid (HL1.out.below b2)
      clear bD1 b2 HP1 HF1 HL1 
      have HR12 := Lib.hid r1
      have HR22 := Lib.hid r2
      have HR32 := Lib.hid r3
      clear r1 r2 r3
      clear hb1 q4 q5
      have b3 := (Below.refl w2.heap.size w2).alloc (Nat.le_refl _) (.cells (boW (Ne.mrB b) A1 f c1) 33)
      have bY3 := Blk.new w2 33 (boW (Ne.mrB b) A1 f c1)
      have hB3 := hB2.trans (b3.mono hB2.size)
      have bD3 := bD2.below b3 bD2.lt
      have HP3 := Lib.hid (HP2.out.below b3)
      have HF3 := Lib.hid (HF2.out.below b3)
      have HL3 := Lib.hid (HL2.out.below b3)
      have HR13 := Lib.hid (HR12.out.below b3)
      have HR23 := Lib.hid (HR22.out.below b3)
      have HR33 := Lib.hid (HR32.out.below b3)
      clear bD2 b3 HP2 HF2 HL2 HR12 HR22 HR32
      have hb1 := desk_board bD3.range
      have q4 := bD3.cell 4
      have q5 := bD3.cell 5
      simp only [List.getElem?_toArray, List.getElem?_cons_zero, List.getElem?_cons_succ] at q4 q5
      go_wp2_with (refine ldm_bo hb1 (by rfl) _ rfl rfl (Hid.out ?_))
      refine Lib.hid ?_
      go_wp2_with fail
      refine (HM2.out _ HF3.out HP3.out HL3.out).mono ?_
      rintro e w4 ⟨A4, c4, A5, c5, A6, c6, rfl, r1, r2, r3, b4⟩
      have hB4 := hB3.trans (b4.mono hB3.size)
      have bD4 := bD3.below b4 bD3.lt
      have HP4 := Lib.hid (HP3.out.below b4)
      have HF4 := Lib.hid (HF3.out.below b4)
      have HL4 := Lib.hid (HL3.out.below b4)
      have bY4 := bY3.below b4 bY3.lt
      have HR14 := Lib.hid (HR13.out.below b4)
      have HR24 := Lib.hid (HR23.out.below b4)
      have HR34 := Lib.hid (HR33.out.below b4)
      clear bD3 b4 HP3 HF3 HL3 bY3 HR13 HR23 HR33
      have HS14 := Lib.hid r1
      have HS24 := Lib.hid r2
      have HS34 := Lib.hid r3
      clear r1 r2 r3
      clear hb1 q4 q5
      have b5 := (Below.refl w4.heap.size w4).alloc (Nat.le_refl _) (.cells (boW (Ne.mrB b) A4 f c4) 33)
      have bZ5 := Blk.new w4 33 (boW (Ne.mrB b) A4 f c4)
      have hB5 := hB4.trans (b5.mono hB4.size)
      have bD5 := bD4.below b5 bD4.lt
      have HP5 := Lib.hid (HP4.out.below b5)
      have HF5 := Lib.hid (HF4.out.below b5)
      have HL5 := Lib.hid (HL4.out.below b5)
      have bY5 := bY4.below b5 bY4.lt
      have HR15 := Lib.hid (HR14.out.below b5)
      have HR25 := Lib.hid (HR24.out.below b5)
      have HR35 := Lib.hid (HR34.out.below b5)
      have HS15 := Lib.hid (HS14.out.below b5)
      have HS25 := Lib.hid (HS24.out.below b5)
      have HS35 := Lib.hid (HS34.out.below b5)
      clear bD4 b5 HP4 HF4 HL4 bY4 HR14 HR24 HR34 HS14 HS24 HS34
      have rY := bY5.range
      have rZ := bZ5.range
      go_wp2_with (first | refine ldm_bo (s := Ne.mrB b) (A := A1) (n := f) (c := c1) rY (by rfl) _ rfl rfl ?_ | refine ldm_bo (s := Ne.mrB b) (A := A4) (n := f) (c := c4) rZ (by rfl) _ rfl rfl (Hid.out ?_))
      refine Lib.hid ?_
      go_wp2_with fail
      refine (HSB.out A1 A4 c1 c4 _ HR15.out HS15.out).mono ?_
      rintro e w6 ⟨rfl, b6⟩
      clear rY rZ bZ5 HS15
      have hB6 := hB5.trans (b6.mono hB5.size)
      have bD6 := bD5.below b6 bD5.lt
      have HP6 := Lib.hid (HP5.out.below b6)
      have HF6 := Lib.hid (HF5.out.below b6)
      have HL6 := Lib.hid (HL5.out.below b6)
      have bY6 := bY5.below b6 bY5.lt
      have HR16 := Lib.hid (HR15.out.below b6)
      have HR26 := Lib.hid (HR25.out.below b6)
      have HR36 := Lib.hid (HR35.out.below b6)
      have HS26 := Lib.hid (HS25.out.below b6)
      have HS36 := Lib.hid (HS35.out.below b6)
      clear bD5 b6 HP5 HF5 HL5 bY5 HR15 HR25 HR35 HS25 HS35
      go_wp2_with fail
      refine (HSP.out A2 A5 c2 c5 _ HR26.out HS26.out).mono ?_
      rintro e w7 ⟨rfl, b7⟩
      clear HS26
      have hB7 := hB6.trans (b7.mono hB6.size)
      have bD7 := bD6.below b7 bD6.lt
      have HP7 := Lib.hid (HP6.out.below b7)
      have HF7 := Lib.hid (HF6.out.below b7)
      have HL7 := Lib.hid (HL6.out.below b7)
      have bY7 := bY6.below b7 bY6.lt
      have HR17 := Lib.hid (HR16.out.below b7)
      have HR27 := Lib.hid (HR26.out.below b7)
      have HR37 := Lib.hid (HR36.out.below b7)
      have HS37 := Lib.hid (HS36.out.below b7)
      clear bD6 b7 HP6 HF6 HL6 bY6 HR16 HR26 HR36 HS36
      go_wp2_with fail
      refine (HSL.out A3 A6 c3 c6 _ HR37.out HS37.out).mono ?_
      rintro e w8 ⟨rfl, b8⟩
      clear HS37
      have hB8 := hB7.trans (b8.mono hB7.size)
      have bD8 := bD7.below b8 bD7.lt
      have HP8 := Lib.hid (HP7.out.below b8)
      have HF8 := Lib.hid (HF7.out.below b8)
      have HL8 := Lib.hid (HL7.out.below b8)
      have bY8 := bY7.below b8 bY7.lt
      have HR18 := Lib.hid (HR17.out.below b8)
      have HR28 := Lib.hid (HR27.out.below b8)
      have HR38 := Lib.hid (HR37.out.below b8)
      clear bD7 b8 HP7 HF7 HL7 bY7 HR17 HR27 HR37
      have rY := bY8.range
      go_wp2_with (refine ldm_bo (s := Ne.mrB b) (A := A1) (n := f) (c := c1) rY (by rfl) _ rfl rfl (Hid.out ?_))
      refine Lib.hid ?_
      go_wp2_with fail
      refine (HWA.out A1 A2 A3 c1 c2 c3 _ HR18.out HR28.out HR38.out).mono ?_
      rintro e w9 ⟨rfl, b9⟩
      clear rY
      have hB9 := hB8.trans (b9.mono hB8.size)
      have bD9 := bD8.below b9 bD8.lt
      have HP9 := Lib.hid (HP8.out.below b9)
      have HF9 := Lib.hid (HF8.out.below b9)
      have HL9 := Lib.hid (HL8.out.below b9)
      have bY9 := bY8.below b9 bY8.lt
      have HR19 := Lib.hid (HR18.out.below b9)
      have HR29 := Lib.hid (HR28.out.below b9)
      have HR39 := Lib.hid (HR38.out.below b9)
      clear bD8 b9 HP8 HF8 HL8 bY8 HR18 HR28 HR38
      have hb1 := desk_board bD9.range
      have q4 := bD9.cell 4
      have q5 := bD9.cell 5
      simp only [List.getElem?_toArray, List.getElem?_cons_zero, List.getElem?_cons_succ] at q4 q5
      go_wp2_with (refine ldm_bo hb1 (by rfl) _ rfl rfl (Hid.out ?_))
      refine Lib.hid ?_
      go_wp2_with fail
      refine (HWB.out _ HF9.out HP9.out HL9.out).mono ?_
      rintro e w10 ⟨rfl, b10⟩
      have hB10 := hB9.trans (b10.mono hB9.size)
      have bD10 := bD9.below b10 bD9.lt
      have HP10 := Lib.hid (HP9.out.below b10)
      have HF10 := Lib.hid (HF9.out.below b10)
      have HL10 := Lib.hid (HL9.out.below b10)
      have bY10 := bY9.below b10 bY9.lt
      have HR110 := Lib.hid (HR19.out.below b10)
      have HR210 := Lib.hid (HR29.out.below b10)
      have HR310 := Lib.hid (HR39.out.below b10)
      clear bD9 b10 HP9 HF9 HL9 bY9 HR19 HR29 HR39
      clear hb1 q4 q5
      have rY := bY10.range
      go_wp2_with (refine ldm_bo (s := Ne.mrB b) (A := A1) (n := f) (c := c1) rY (by rfl) _ rfl rfl (Hid.out ?_))
      refine Lib.hid ?_
      go_wp2_with fail
      refine (HM3.out A1 A2 A3 c1 c2 c3 _ HR110.out HR210.out HR310.out).mono ?_
      rintro e w11 ⟨A7, c7, A8, c8, A9, c9, rfl, r1, r2, r3, _, b11⟩
      rw [HBK.out.1] at r1 ⊢
      rw [HBK.out.2] at r3
      have HTa11 := Lib.hid r1
      have HTb11 := Lib.hid r2
      have HTc11 := Lib.hid r3
      clear r1 r2 r3 rY hcc bY10 HR110 HR210 HR310
      have hB11 := hB10.trans (b11.mono hB10.size)
      have bD11 := bD10.below b11 bD10.lt
      have HP11 := Lib.hid (HP10.out.below b11)
      have HF11 := Lib.hid (HF10.out.below b11)
      have HL11 := Lib.hid (HL10.out.below b11)
      clear bD10 b11 HP10 HF10 HL10 
      have b12 := (Below.refl w11.heap.size w11).alloc (Nat.le_refl _) (.cells (boW b A7 f c7) 33)
      have bV12 := Blk.new w11 33 (boW b A7 f c7)
      have hB12 := hB11.trans (b12.mono hB11.size)
      have bD12 := bD11.below b12 bD11.lt
      have HP12 := Lib.hid (HP11.out.below b12)
      have HF12 := Lib.hid (HF11.out.below b12)
      have HL12 := Lib.hid (HL11.out.below b12)
      have HTa12 := Lib.hid (HTa11.out.below b12)
      have HTb12 := Lib.hid (HTb11.out.below b12)
      have HTc12 := Lib.hid (HTc11.out.below b12)
      clear bD11 b12 HP11 HF11 HL11 HTa11 HTb11 HTc11
      have rV := bV12.range
      have hb1 := desk_board bD12.range
      go_wp2_with (first | refine ldm_bo (s := b) (A := A7) (n := f) (c := c7) rV (by rfl) _ rfl rfl ?_ | refine ldm_bo hb1 (by rfl) _ rfl rfl (Hid.out ?_))
      refine Lib.hid ?_
      go_wp2_with fail
      refine (HSB2.out A7 fA c7 fC _ HTa12.out HF12.out).mono ?_
      rintro e w13 ⟨rfl, b13⟩
      clear rV hb1 bV12 HTa12
      have hB13 := hB12.trans (b13.mono hB12.size)
      have bD13 := bD12.below b13 bD12.lt
      have HP13 := Lib.hid (HP12.out.below b13)
      have HF13 := Lib.hid (HF12.out.below b13)
      have HL13 := Lib.hid (HL12.out.below b13)
      have HTb13 := Lib.hid (HTb12.out.below b13)
      have HTc13 := Lib.hid (HTc12.out.below b13)
      clear bD12 b13 HP12 HF12 HL12 HTb12 HTc12
      have q5 := bD13.cell 5
      simp only [List.getElem?_toArray, List.getElem?_cons_zero, List.getElem?_cons_succ] at q5
      go_wp2_with fail
      refine (HSL2.out A9 lA c9 lC _ HTc13.out HL13.out).mono ?_
      rintro e w14 ⟨rfl, b14⟩
      clear q5 HTc13
      have hB14 := hB13.trans (b14.mono hB13.size)
      have bD14 := bD13.below b14 bD13.lt
      have HP14 := Lib.hid (HP13.out.below b14)
      have HF14 := Lib.hid (HF13.out.below b14)
      have HL14 := Lib.hid (HL13.out.below b14)
      have HTb14 := Lib.hid (HTb13.out.below b14)
      clear bD13 b14 HP13 HF13 HL13 HTb13
      have q4 := bD14.cell 4
      simp only [List.getElem?_toArray, List.getElem?_cons_zero, List.getElem?_cons_succ] at q4
      go_wp2
      clear q4 hmm hrr
      go_loopw [138] (fun i wr => ∃ k : Nat, k ≤ m ∧ i = .int .i64 k ∧ Below w14.heap.size w14 wr) (fun i _ => m - (intOf i).toNat)
      case atStart => exact ⟨0, Nat.zero_le _, rfl, Below.refl _ _⟩
      case round =>
        obtain ⟨k, hk, rfl, hb⟩ := hrel
        by_cases hlt : k < m
        · obtain ⟨g, off, rfl, hg, hc⟩ := (HP14.out.below hb).open (by rw [HMN.out]; omega)
          obtain ⟨g2, off2, rfl, hg2, hc2⟩ := (HTb14.out.below hb).open (by rw [List.length_map, List.length_map, HMN.out]; omega)
          obtain ⟨D1, k1, d1, d2, d3, d4⟩ := hc k (by rw [HMN.out]; exact hlt)
          obtain ⟨D2, k2, f1, f2, f3, f4⟩ := hc2 k (by rw [List.length_map, List.length_map, HMN.out]; exact hlt)
          have hvk := HVA.out k hlt
          rw [Ne.getD_mapP (by rw [List.length_map, HMN.out]; exact hlt), Ne.getD_mapP (by rw [HMN.out]; exact hlt)] at f1 f2 f3 f4
          obtain ⟨q, hq⟩ : ∃ q, ps.getD k Ne.za = q := ⟨_, rfl⟩
          rw [hq] at d1 d2 d3 d4 f1 f2 f3 f4 hvk
          obtain ⟨qo, qt⟩ := q
          have hbk : (Ne.mrP (Ne.mrP ⟨qo, qt⟩)).o = Geo.canon qo := canon_mir_back hvk
          have hbt : (Ne.mrP (Ne.mrP ⟨qo, qt⟩)).t = qt := rfl
          rw [hbk] at f1 f3 f4
          rw [hbt] at f2
          dsimp only at d1 d2 d3 d4 hvk
          have h64 := hvk.2.1
          rw [Geo.canon_length] at f1 f4
          obtain ⟨N, hN⟩ : ∃ N, qo.length = N := ⟨_, rfl⟩
          rw [hN] at d1 d4 f1 f4 h64
          have hlc : (Geo.canon qo).length = N := by rw [Geo.canon_length, hN]
          have HCA := Lib.hid (fun W h => rcan_at D1 qo N k1 hN d4 (validB_true hvk) W h)
          have hal := (Below.refl wr.heap.size wr).alloc (Nat.le_refl _) (.cells #[.slice D1 N k1, .bool qt] 68)
          have hb2 := hb.alloc hb.size (.cells #[.slice D1 N k1, .bool qt] 68)
          have bN := Blk.new wr 68 #[.slice D1 N k1, .bool qt]
          have HD1 := Lib.hid (d3.below hal)
          have HD2 := Lib.hid (f3.below hal)
          have e1 := (hal.cell (p := ⟨g2, off2 + k * 2, none⟩) hg2).trans f1
          have e2 := (hal.cell (p := ⟨g2, off2 + k * 2 + 1, none⟩) hg2).trans f2
          have hgl : g2 < (wr.alloc (.cells #[.slice D1 N k1, .bool qt] 68)).heap.size := by rw [World.size_alloc]; omega
          have p0 := bN.cell 0
          simp only [List.getElem?_toArray, List.getElem?_cons_zero] at p0
          have HLC := Lib.hid hlc
          have htt : (qt == qt) = true := by simp
          have hlm : (k : Int) < (m : Int) := by omega
          clear hc hc2 hq hvk hN d3 f3 hlc hbk hbt hal f1 f2 d4 f4
          go_wp2_with fail
          refine (HCA.out _ HD1.out).mono ?_
          rintro e w16 ⟨B1, l1, rfl, hp1, hl1, b16⟩
          have hb3 := hb2.trans (b16.mono hb2.size)
          have bN2 := bN.below b16 bN.lt
          have HEQ := Lib.hid (fun s : Ext w16 => equal_self D2 B1 (Geo.canon qo) k2 l1 N HLC.out h64 s.w ((HD2.out.below b16).below s.h) (hp1.below s.h))
          have x0 : ∀ s : Ext w16, s.w.cell? ⟨g2, off2 + k * 2, none⟩ = some (.slice D2 N k2) := fun s => s.cell ((b16.cell (p := ⟨g2, off2 + k * 2, none⟩) hgl).trans e1)
          have x1 : ∀ s : Ext w16, s.w.cell? ⟨g2, off2 + k * 2 + 1, none⟩ = some (.bool qt) := fun s => s.cell ((b16.cell (p := ⟨g2, off2 + k * 2 + 1, none⟩) hgl).trans e2)
          have x2 : ∀ s : Ext w16, s.w.cell? ⟨wr.heap.size, 1, none⟩ = some (.bool qt) := fun s => s.cell (bN2.cell 1)
          clear p0 e1 e2 hgl bN bN2 hp1 d1 d2
          go_wp2
          refine wp_region_ext (by kernel_rfl) (by kernel_rfl) ?_
          repeat (go_big_quiet_step ((go_at_call 21; refine calls_ext (HEQ.out _))))
          refine wpQuiet_nil ?_
          rintro _ ⟨s, rfl⟩
          have hb4 := hb3.trans (s.h.mono hb3.size)
          clear x0 x1 x2
          go_wp2
          go_roundw
          case rel => exact ⟨k + 1, by omega, by go_num, hb4⟩
          case measure => simp [intOf]; omega
        · obtain rfl : k = m := by omega
          have hB15 := hB14.trans (hb.mono hB14.size)
          go_wp2_with fail
          refine (awake_any _).mono ?_
          rintro e wz ⟨rfl, bz⟩
          go_wp2
          go_ret
          exact ⟨rfl, hB15.trans (bz.mono hB15.size)⟩
end Go.Proofs.Ytlikmlhlfbdchaa
