/- Plain: a book of bytes. -/
import Derived.Test.YtalfffkcmddakaaP13
namespace Go.Proofs.Ytalfffkcmddakaa.Pl

/-- the entry with these 13 bytes -/
def de1 (l : Bs) : En := ⟨(l.getD 0 0).toNat, num ((l.drop 1).take 4), num ((l.drop 5).take 4), num ((l.drop 9).take 4)⟩
/-- the piece with this number -/
def pce (l : Bs) (k : Nat) : Bs := (l.drop (k * 13)).take 13
/-- as many entries of the bytes -/
def decN (l : Bs) (m : Nat) : List En := (List.range m).map fun k => de1 (pce l k)
theorem decN_succ (l : Bs) (m : Nat) : decN l (m + 1) = decN l m ++ [de1 (pce l m)] := by unfold decN; rw [List.range_succ]; simp
theorem decN_len (l : Bs) (m : Nat) : (decN l m).length = m := by unfold decN; simp
theorem four_num (l : Bs) (h : l.length = 4) : four (num l) = l := by
  obtain ⟨a, b, c, d, rfl⟩ : ∃ a b c d, l = [a, b, c, d] := by
    match l, h with
    | [a, b, c, d], _ => exact ⟨a, b, c, d, rfl⟩
  have ha := a.toNat_lt
  have hb := b.toNat_lt
  have hc := c.toNat_lt
  have hd := d.toNat_lt
  unfold four num
  simp only [List.foldl_cons, List.foldl_nil, List.cons.injEq, and_true]
  refine ⟨?_, ?_, ?_, ?_⟩ <;> (apply UInt8.toNat_inj.1; simp only [UInt8.toNat_ofNat']; omega)
theorem enc1_de1 (l : Bs) (h : l.length = 13) : enc1 (de1 l) = l := by
  have e0 : (de1 l).k.toNat = (l.getD 0 0).toNat := by unfold de1; simp
  have e1 : (de1 l).r.toNat = num ((l.drop 1).take 4) := by unfold de1; simp
  have e2 : (de1 l).d.toNat = num ((l.drop 5).take 4) := by unfold de1; simp
  have e3 : (de1 l).c.toNat = num ((l.drop 9).take 4) := by unfold de1; simp
  unfold enc1
  rw [e0, e1, e2, e3, four_num _ (by simp; omega), four_num _ (by simp; omega), four_num _ (by simp; omega)]
  match l, h with
  | [a, b, c, d, e, f, g, h, i, j, k, l, m], _ => simp
theorem de1_enc1 {e : En} (h : vE e = true) : de1 (enc1 e) = e := by
  have v := ve_iff.1 h
  have hk := v.k4
  have hk1 := v.k1
  have hr := v.r9
  have hd := v.d1
  have hc := v.c9
  have hr1 := v.r1
  have hd1 := v.d0
  have hc1 := v.c0
  have p1 : ((enc1 e).drop 1).take 4 = four e.r.toNat := by unfold enc1; simp [four]
  have p2 : ((enc1 e).drop 5).take 4 = four e.d.toNat := by unfold enc1; simp [four]
  have p3 : ((enc1 e).drop 9).take 4 = four e.c.toNat := by unfold enc1; simp [four]
  have p0 : ((enc1 e).getD 0 0).toNat = e.k.toNat := by unfold enc1; simp [UInt8.toNat_ofNat']; omega
  unfold de1
  rw [p0, p1, p2, p3, num_four (by omega), num_four (by omega), num_four (by omega)]
  obtain ⟨k, r, d, c⟩ := e
  simp only [En.mk.injEq] at *
  omega
theorem encL_dec (l : Bs) : ∀ m, m * 13 ≤ l.length → encL (decN l m) = l.take (m * 13)
  | 0, _ => by simp [decN, encL]
  | m + 1, h => by
    rw [decN_succ, encL_snoc, encL_dec l m (by omega), enc1_de1 _ (by unfold pce; rw [List.length_take, List.length_drop]; omega)]
    unfold pce
    rw [show (m + 1) * 13 = m * 13 + 13 by omega, List.take_add]
theorem dec_encL : ∀ L : List En, (∀ e, e ∈ L → vE e = true) → ∀ m (r : Bs), m = L.length → decN (encL L ++ r) m = L := by
  refine snoc_ind (P := fun L => (∀ e, e ∈ L → vE e = true) → ∀ m (r : Bs), m = L.length → decN (encL L ++ r) m = L) ?_ ?_
  · intro _ m r hm; subst hm; rfl
  · intro L e ih hv m r hm
    subst hm
    rw [List.length_append, List.length_singleton, decN_succ, encL_snoc, List.append_assoc, ih (fun x hx => hv x (List.mem_append_left _ hx)) _ _ rfl]
    have : pce (encL L ++ (enc1 e ++ r)) L.length = enc1 e := by
      unfold pce
      rw [show L.length * 13 = (encL L).length by rw [encL_len]; omega, List.drop_left, show (13 : Nat) = (enc1 e).length from rfl, List.take_left]
    rw [this, de1_enc1 (hv e (by simp))]
/-- whether bytes are a book's -/
def okD (l : Bs) : Bool := decide (l.length % 13 = 0) && decide (l.length ≤ 2600) && vB (decN l (l.length / 13)) && decide (srt (decN l (l.length / 13)) = decN l (l.length / 13))
def dcE (l : Bs) : Int := if okD l then 0 else 90
def dcV (l : Bs) : List En := if okD l then decN l (l.length / 13) else []
theorem encL_all {l : Bs} (h : l.length % 13 = 0) : encL (decN l (l.length / 13)) = l := by
  rw [encL_dec l _ (by omega), List.take_of_length_le (by omega)]
/-- the document's way: what was read is written again -/
theorem again {l : Bs} (h : l.length % 13 = 0) (hv : Vb (decN l (l.length / 13))) : encL (srt (decN l (l.length / 13))) = l ↔ srt (decN l (l.length / 13)) = decN l (l.length / 13) := by
  have h1 := encL_all h
  generalize decN l (l.length / 13) = D at *
  constructor
  · intro h2
    have h3 := dec_encL (srt D) (fun e he => hv.each e (srt_mem.1 he)) _ [] rfl
    have h4 := dec_encL D hv.each _ [] rfl
    rw [List.append_nil] at h3 h4
    rw [h2, ← h1, srt_len] at h3
    rw [h4] at h3
    exact h3.symm
  · intro h2; rw [h2, h1]
/-- the program's way: no entry is ahead of the one before -/
theorem inO_iff {D : List En} (hv : Vb D) : (∀ i, (hi : i + 1 < D.length) → lt D[i + 1] D[i] = false) ↔ srt D = D := by
  constructor
  · intro h
    refine asc_srt ?_
    have hadj : ∀ i (hi : i + 1 < D.length), lt D[i] D[i + 1] = true := fun i hi => by
      rcases lt_total (e := D[i]) (f := D[i + 1]) (fun e => by
        have hn := hv.dif
        have h6 := List.pairwise_iff_getElem.1 hn i (i + 1) (by simp; omega) (by simpa using hi) (by omega)
        rw [List.getElem_map, List.getElem_map] at h6
        exact h6 e) with h5 | h5
      · exact h5
      · rw [h i hi] at h5; cases h5
    have hall : ∀ j i (hi : i < j) (hj : j < D.length), lt D[i] D[j] = true := fun j => by
      induction j with
      | zero => intro i hi; omega
      | succ j ih =>
        intro i hi hj
        by_cases e : i = j
        · subst e; exact hadj i hj
        · exact lt_tr (ih i (by omega) (by omega)) (hadj j hj)
    unfold Asc
    rw [List.pairwise_iff_getElem]
    intro i j hi hj hij
    exact hall j i hij hj
  · intro h i hi
    have ha := srt_asc hv.dif
    rw [h] at ha
    unfold Asc at ha
    rw [List.pairwise_iff_getElem] at ha
    have := ha i (i + 1) (by omega) hi (by omega)
    rw [lt_iff] at this
    rw [lt_iff']
    omega
theorem dc_round {L : List En} (hv : Vb L) : dcE (encL (srt L)) = 0 ∧ dcV (encL (srt L)) = srt L := by
  have hs := hv.srt
  have h1 := encL_len (srt L)
  have h2 := dec_encL (srt L) hs.each _ [] rfl
  rw [List.append_nil] at h2
  have h3 : (encL (srt L)).length / 13 = (srt L).length := by omega
  have h4 : okD (encL (srt L)) = true := by
    unfold okD
    rw [h3, h2, vb_iff.2 hs, srt_idem hv.dif]
    have := hs.len
    simp
    omega
  unfold dcE dcV
  rw [h4, h3, h2]
  exact ⟨rfl, rfl⟩
end Go.Proofs.Ytalfffkcmddakaa.Pl
