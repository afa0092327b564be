/- The document's first and Cover. -/
import Derived.Test.YtghbipipehglfaaDoorC5
import Derived.Test.YtghbipipehglfaaDoorC2
import Derived.Laws.AppendOwnNone
namespace Go.Proofs.YtghbipipehglfaaDoor
open Go.RowKit Go.Shelf

/-- appending a list that lies in memory -/
theorem ap_ints {ops : Array Oper} {rest : List Oper} {o : Oper} {a : Act} {Q : Exit → Act → World → Prop} {w : World} {base : Nat} {v : Value} {l : List Int} (hown : w.ownsRow base 3 1 v l.length (ints l)) (hgd : o.guard = none) (s x : Operand)
    (ho : o.op = .call { callee := .builtin .append, args := #[s, x], argTypes := #[31, 31] }) (hs : a.eval s = v) (A : Option Addr) (m : List Int) (c : Nat) (hx : a.eval x = .slice A m.length c)
    (hI : Ints w A m) (hn : A = none → m.length = 0 ∧ c = 0) (hlen : l.length + m.length ≤ 100000) (hbase : base ≤ w.heap.size)
    (h : ∀ v' w', w'.ownsRow base 3 1 v' (l ++ m).length (ints (l ++ m)) → w.grownBy w' v.ownBlock → wpList Tryd.prog ops Q rest (a.put o.dst v') w') : wpList Tryd.prog ops Q (o :: rest) a w := by
  obtain ⟨i0, hi, hz0, hz1, hz2⟩ := info_parts info3
  cases A with
  | none =>
    obtain ⟨hz, rfl⟩ := hn rfl
    obtain rfl : m = [] := List.eq_nil_of_length_eq_zero hz
    exact wpList_append_own_none hgd s x _ ho base 3 i0 1 Tryd.underlying31 hi v l.length (ints l) hs hown hx (h v w (by rw [List.append_nil]; exact hown) ⟨rfl, rfl, rfl, Nat.le_refl _, fun _ _ _ => rfl⟩)
  | some ad =>
    have hcells : ∀ j u, (ints m)[j]? = some u → w.cell? (ad.add j) = some u := by
      intro j u hj
      have hjm : j < m.length := by
        rcases Nat.lt_or_ge j m.length with e | e
        · exact e
        · rw [List.getElem?_eq_none (by rw [ints_len]; exact e)] at hj; cases hj
      rcases hI with h0 | ⟨b, off, e, _, hc⟩
      · rw [h0] at hjm; simp at hjm
      · cases e
        rw [ints_get hjm] at hj
        cases hj
        rw [Go.WideShapes.add_plain]
        exact hc j hjm
    refine wpList_append_own w hgd s x 31 ho base 3 i0 (.int .i64 0) 1 8 Tryd.underlying31 hi hz0 hz1 hz2 rfl (by decide) v l.length (ints l) hs hown ad m.length c (ints m) hx (by rw [ints_len]; omega) hcells (ints_one m) (by unfold maxLen; omega) (by omega) hbase ?_
    intro v' w' ho' hg _
    refine h v' w' ?_ hg
    rw [List.length_append, ints, List.map_append]
    exact ho'
theorem own_list {W : World} {base : Nat} {v : Value} {l : List Int} (h : W.ownsRow base 3 1 v l.length (ints l)) : ∃ A c, v = .slice A l.length c ∧ Ints W A l ∧ (A = none → l.length = 0 ∧ c = 0) := by
  have hh := h
  obtain ⟨A, c, rfl, hI⟩ := ints_of_owns h
  refine ⟨A, c, rfl, hI, fun e => ?_⟩
  subst e
  rcases hh.2 with ⟨e, h0⟩ | ⟨g, cap, cur, e, _⟩
  · exact ⟨h0, by have := congrArg (fun v => match v with | .slice _ _ c => c | _ => 0) e; exact this⟩
  · simp at e
theorem nats_nts (l : List Nat) : nats (nts l) = l := by
  unfold nats nts
  rw [List.map_map]
  conv => rhs; rw [← List.map_id l]
  congr 1
theorem nts_bd {l : List Nat} {n : Nat} (h : ∀ i ∈ l, i < n) : ∀ k, k < (nts l).length → 0 ≤ (nts l).getD k 0 ∧ (nts l).getD k 0 < n := fun k hk => by
  have := Pl.getD_in (z := 0) hk
  unfold nts at this ⊢
  obtain ⟨i, hi, e⟩ := List.mem_map.1 this
  rw [← e]
  have := h i hi
  constructor
  · exact Int.natCast_nonneg i
  · exact Int.ofNat_lt.2 this
theorem lenC {f : FuncId} {a1 a2 a4 : Value} {A : Option Addr} {n m c : Nat} {w : World} {Q : Ending → World → Prop} (e : n = m) (h : Calls Tryd.prog f #[a1, a2, .slice A m c, a4] w Q) : Calls Tryd.prog f #[a1, a2, .slice A n c, a4] w Q := by
  subst e; exact h
/-- what first gives -/
def FrsOk (W : World) (v : Value) (b : Bool) : Option (List Nat) → Prop
  | some r => b = true ∧ ∃ A c, v = .slice A r.length c ∧ Ints W A (nts r) ∧ (A = none → r.length = 0 ∧ c = 0)
  | none => b = false
theorem FrsOk.below {W W' : World} {v : Value} {b : Bool} : ∀ {o : Option (List Nat)}, FrsOk W v b o → Below W.heap.size W W' → FrsOk W' v b o
  | some _, ⟨h1, A, c, h2, h3, h4⟩, hb => ⟨h1, A, c, h2, h3.below hb, h4⟩
  | none, h, _ => h

set_option maxRecDepth 100000 in
set_option maxHeartbeats 8000000 in
theorem rfirst_any (A B : Option Addr) (ss : List Pl.Sz) (hs : List Pl.Hd) (c d : Nat) (w : World) (hv : ∀ k, k < ss.length → Pl.vsz (ss.getD k Pl.zsz) = true) (hh : ∀ k, k < hs.length → Pl.vh (hs.getD k zhd) = true)
    (hh40 : hs.length ≤ 40) (hs20 : ss.length ≤ 20) (hI : Szs w A ss) (hJ : Hds w B hs) : ∀ (m : Nat) (Al : Option Addr) (l : List Nat) (cl : Nat) (w' : World), Below w.heap.size w w' → Ints w' Al (nts l) → (Al = none → l.length = 0 ∧ cl = 0) →
      l.Pairwise (· < ·) → (∀ i ∈ l, i < ss.length) → l.length + m ≤ 20 →
    Calls Tryd.prog 62 #[.slice A ss.length c, .slice B hs.length d, .slice Al l.length cl, .int .i64 m] w' fun e w'' => ∃ v b, e = .returned (.tuple #[v, .bool b]) ∧ FrsOk w'' v b (Pl.frs (Pl.cv ss hs) ss.length m l) ∧ Below w'.heap.size w' w'' := by
  have HC := Lib.hid (fun (Al : Option Addr) (l : List Nat) (cl : Nat) (w' : World) (hb : Below w.heap.size w w') (hL : Ints w' Al (nts l)) (hl : ∀ i ∈ l, i < ss.length) (hl20 : l.length ≤ 20) =>
    rcovers_any A B Al ss hs (nts l) c d cl w' hv hh (nts_bd hl) (by rw [nts_len]; omega) hh40 (hI.below hb) (hJ.below hb) hL)
  intro m
  induction m with
  | zero =>
    intro Al l cl w' hb hL hnil hp hl hlen
    have HK := Lib.hid (HC.out Al l cl w' hb hL hl (by omega))
    rw [nats_nts, nts_len] at HK
    have HF : Hid (Pl.frs (Pl.cv ss hs) ss.length 0 l = if Pl.cv ss hs l = true then some l else none) := Lib.hid rfl
    have HL := Lib.hid hL
    have HNIL := Lib.hid hnil
    clear hv hh hI hJ hL hnil hp hl hb HC
    generalize Pl.frs (Pl.cv ss hs) ss.length 0 l = R at *
    obtain ⟨b, hbb⟩ : ∃ b, Pl.cv ss hs l = b := ⟨_, rfl⟩
    rw [hbb] at HK HF
    clear hbb
    go_enter Tryd.func62, Tryd.ntmps62
    go_wp2_with (go_at_call 56; refine HK.out.mono ?_; rintro e w1 ⟨rfl, hb1⟩)
    go_ret2
    refine ⟨_, _, rfl, ?_, hb1⟩
    rw [HF.out]
    cases b with
    | true => exact ⟨rfl, Al, cl, rfl, HL.out.below hb1, HNIL.out⟩
    | false => rfl
  | succ m ih =>
    intro Al l cl w' hb hL hnil hp hl hlen
    have HREC := Lib.hid ih
    have HW0 := Lib.hid hb
    have HL := Lib.hid hL
    have HNIL : Hid (Al = none → (nts l).length = 0 ∧ cl = 0) := Lib.hid (by rw [nts_len]; exact hnil)
    have HNXT := Lib.hid (fun k (hk : Pl.frm l ≤ k) (hkn : k < ss.length) => (⟨Pl.frm_inc hp hk, fun i hi => by
      rcases List.mem_append.1 hi with h1 | h1
      · exact hl i h1
      · obtain rfl : i = k := by simpa using h1
        exact hkn⟩ : (l ++ [k]).Pairwise (· < ·) ∧ ∀ i ∈ l ++ [k], i < ss.length))
    obtain ⟨R, hR⟩ : ∃ R, Pl.frs (Pl.cv ss hs) ss.length (m + 1) l = R := ⟨_, rfl⟩
    have HR : Hid (((List.range ss.length).drop (Pl.frm l)).findSome? (fun i => Pl.frs (Pl.cv ss hs) ss.length m (l ++ [i])) = R) := Lib.hid hR
    rw [hR]
    obtain ⟨M1, hM1⟩ : ∃ M1 : Int, ((m + 1 : Nat) : Int) = M1 := ⟨_, rfl⟩
    rw [hM1]
    have hm0 : (M1 == 0) = false := by rw [← hM1]; simp; omega
    have hm1 : M1 - 1 = (m : Int) := by rw [← hM1]; simp
    have hm2 : 1 ≤ M1 := by omega
    have hm3 : M1 ≤ 21 := by omega
    have hLL := hL
    clear hv hh hI hJ hL hnil hb HC hR ih hM1
    rcases List.eq_nil_or_concat l with rfl | ⟨p, x, rfl⟩
    · have HFN : Hid (Pl.frm [] ≤ ss.length) := Lib.hid (Nat.zero_le _)
      clear hp hl hLL
      have hf0 : Pl.frm [] = 0 := rfl
      rw [hf0] at HR HFN HNXT
      clear hf0
      go_enter Tryd.func62, Tryd.ntmps62
      go_wp2
      go_loopw [11, 12, 13, 14] (fun i _ _ _ wr => ∃ k : Nat, k ≤ ss.length ∧ 0 ≤ k ∧ i = .int .i64 k ∧ Hid (((List.range ss.length).drop k).findSome? (fun i => Pl.frs (Pl.cv ss hs) ss.length m (([] : List Nat) ++ [i])) = R) ∧ Below w'.heap.size w' wr) (fun i _ _ _ _ => ss.length - (intOf i).toNat)
      case atStart => exact ⟨0, HFN.out, Nat.le_refl _, by first | rfl | simp, HR, Below.refl _ _⟩
      case round =>
        obtain ⟨k, hk, hfk, rfl, hr, hB⟩ := hrel
        obtain ⟨wo, rfl⟩ : ∃ wo, wo = wr := ⟨_, rfl⟩
        by_cases hlt : k < ss.length
        · have hI1 := HL.out.below hB
          have HNX := Lib.hid (HNXT.out k hfk hlt)
          obtain ⟨F, hF⟩ : ∃ F, Pl.frs (Pl.cv ss hs) ss.length m (([] : List Nat) ++ [k]) = F := ⟨_, rfl⟩
          have HRR : Hid (R = F.or (((List.range ss.length).drop (k + 1)).findSome? (fun i => Pl.frs (Pl.cv ss hs) ss.length m (([] : List Nat) ++ [i])))) := Lib.hid (by
            rw [← hr.out, List.drop_eq_getElem_cons (by simpa using hlt), List.findSome?_cons, List.getElem_range]
            simp only [hF]
            cases F <;> rfl)
          have HRC := Lib.hid (fun A2 n2 c2 w2 (hn2 : n2 = (([] : List Nat) ++ [k]).length) hB3 hI3 (hnn : A2 = none → n2 = 0 ∧ c2 = 0) => lenC hn2 (HREC.out A2 (([] : List Nat) ++ [k]) c2 w2 hB3 hI3 (by rw [← hn2]; exact hnn) HNX.out.1 HNX.out.2 (by simp; omega)))
          rw [hF] at HRC
          clear hr hF
          have hz := hB.size
          have hoE : (wo.alloc (.cells #[] 3)).ownsRow w'.heap.size 3 1 (.slice (some ⟨wo.heap.size, 0, none⟩) 0 0) ([] : List Int).length (ints []) := World.ownsRow_lit (e := 3) (size := 1) (base := w'.heap.size) wo #[] 0 hz (by unfold maxLen; omega) rfl
          have hB1 := hB.alloc hz (.cells #[] 3)
          have hI2 := hI1.below ((Below.refl _ wo).alloc (Nat.le_refl _) (.cells #[] 3))
          go_wp2_with (first
            | (at_builtin; refine ap_ints hoE rfl _ _ rfl rfl Al (nts ([] : List Nat)) cl rfl hI2 HNIL.out (by simp [nts]) (by simp; omega) ?_; intro v1 w1 hown1 hg1; have hB2 := hB1.grown hg1 hB1.size (fun s e => by cases e; omega))
            | (at_builtin; refine ap_int (n := (k : Int)) (hown1.alloc _) rfl _ _ rfl rfl _ rfl ((Blk.new _ _ _).cell 0) (by simp [nts]) (by have := hB2.size; simp; omega) ?_; intro v2 w2 hown2 hg2; have hB3 := (hB2.alloc hB2.size _).grown hg2 (by have := hB2.size; simp; omega) (fun s e => (hown1.lt s e).1); rw [List.nil_append, ← nts_snoc] at hown2; obtain ⟨A2, c2, hv2, hI3, hnn⟩ := own_list hown2; rw [nts_len] at hv2 hnn; subst hv2))
          refine (HRC.out A2 _ c2 w2 (by simp) (HW0.out.trans (hB3.mono HW0.out.size)) hI3 (by simpa using hnn)).mono ?_
          rintro e w3 ⟨v3, b3, rfl, hok3, hb3⟩
          have hB4 := hB3.trans (hb3.mono hB3.size)
          cases F with
          | some r =>
            obtain ⟨hbt, A3, c3, hv3, hI4, hnn3⟩ := hok3
            subst hbt
            subst hv3
            go_wp2
            go_ret2
            exact ⟨_, _, rfl, by rw [HRR.out]; exact ⟨rfl, A3, c3, rfl, hI4, hnn3⟩, hB4⟩
          | none =>
            have hbt : b3 = false := hok3
            subst hbt
            go_wp2
            go_roundw
            case rel => exact ⟨k + 1, by omega, by omega, by go_num, Lib.hid HRR.out.symm, hB4⟩
            case measure => simp [intOf]; omega
        · obtain rfl : k = ss.length := by omega
          have HN : Hid (R = none) := Lib.hid (by rw [← hr.out, List.drop_of_length_le (by simp)]; rfl)
          go_wp2
          go_ret2
          exact ⟨_, _, rfl, by rw [HN.out]; rfl, hB⟩
    · rw [List.concat_eq_append] at *
      have hxl : x < ss.length := hl x (by simp)
      have HFN : Hid (x + 1 ≤ ss.length) := Lib.hid hxl
      have hf1 : Pl.frm (p ++ [x]) = x + 1 := by unfold Pl.frm; rw [List.getLast?_concat]
      rw [hf1] at HR HNXT
      have hpl : (p ++ [x]).length = p.length + 1 := by simp
      obtain ⟨bl, ol, rfl, hbl, hcx⟩ : ∃ bb off, Al = some ⟨bb, off, none⟩ ∧ bb < w'.heap.size ∧ w'.cell? ⟨bb, off + p.length, none⟩ = some (.int .i64 x) := by
        rcases hLL with h | ⟨bb, off, he, h1, hc⟩
        · simp [nts] at h
        · refine ⟨bb, off, he, h1, ?_⟩
          have := hc p.length (by rw [nts_len, hpl]; omega)
          rw [this, nts, List.map_append, List.getD_eq_getElem?_getD, List.getElem?_append_right (by simp)]
          simp
      rw [hpl]
      have hpe : ((p.length : Int) + 1 == 0) = false := by simp; omega
      clear hp hl hLL hf1
      rw [hpl] at hlen
      have HPL := Lib.hid hpl
      clear hpl
      generalize hN : p ++ [x] = LS at *
      clear hN
      go_enter Tryd.func62, Tryd.ntmps62
      go_wp2
      go_loopw [11, 12, 13, 14] (fun i _ _ _ wr => ∃ k : Nat, k ≤ ss.length ∧ (x + 1) ≤ k ∧ i = .int .i64 k ∧ Hid (((List.range ss.length).drop k).findSome? (fun i => Pl.frs (Pl.cv ss hs) ss.length m (LS ++ [i])) = R) ∧ Below w'.heap.size w' wr) (fun i _ _ _ _ => ss.length - (intOf i).toNat)
      case atStart => exact ⟨(x + 1), HFN.out, Nat.le_refl _, by first | rfl | simp, HR, Below.refl _ _⟩
      case round =>
        obtain ⟨k, hk, hfk, rfl, hr, hB⟩ := hrel
        obtain ⟨wo, rfl⟩ : ∃ wo, wo = wr := ⟨_, rfl⟩
        by_cases hlt : k < ss.length
        · have hI1 := HL.out.below hB
          have HNX := Lib.hid (HNXT.out k hfk hlt)
          obtain ⟨F, hF⟩ : ∃ F, Pl.frs (Pl.cv ss hs) ss.length m (LS ++ [k]) = F := ⟨_, rfl⟩
          have HRR : Hid (R = F.or (((List.range ss.length).drop (k + 1)).findSome? (fun i => Pl.frs (Pl.cv ss hs) ss.length m (LS ++ [i])))) := Lib.hid (by
            rw [← hr.out, List.drop_eq_getElem_cons (by simpa using hlt), List.findSome?_cons, List.getElem_range]
            simp only [hF]
            cases F <;> rfl)
          have HRC := Lib.hid (fun A2 n2 c2 w2 (hn2 : n2 = (LS ++ [k]).length) hB3 hI3 (hnn : A2 = none → n2 = 0 ∧ c2 = 0) => lenC hn2 (HREC.out A2 (LS ++ [k]) c2 w2 hB3 hI3 (by rw [← hn2]; exact hnn) HNX.out.1 HNX.out.2 (by rw [List.length_append, HPL.out]; simp; omega)))
          rw [hF] at HRC
          clear hr hF
          have hz := hB.size
          have hoE : (wo.alloc (.cells #[] 3)).ownsRow w'.heap.size 3 1 (.slice (some ⟨wo.heap.size, 0, none⟩) 0 0) ([] : List Int).length (ints []) := World.ownsRow_lit (e := 3) (size := 1) (base := w'.heap.size) wo #[] 0 hz (by unfold maxLen; omega) rfl
          have hB1 := hB.alloc hz (.cells #[] 3)
          have hI2 := hI1.below ((Below.refl _ wo).alloc (Nat.le_refl _) (.cells #[] 3))
          go_wp2_with (first
            | (at_builtin; refine ap_ints hoE rfl _ _ rfl rfl (some ⟨bl, ol, none⟩) (nts LS) cl (by rw [nts_len, HPL.out]; rfl) hI2 HNIL.out (by rw [nts_len, HPL.out]; simp; omega) (by simp; omega) ?_; intro v1 w1 hown1 hg1; have hB2 := hB1.grown hg1 hB1.size (fun s e => by cases e; omega))
            | (at_builtin; refine ap_int (n := (k : Int)) (hown1.alloc _) rfl _ _ rfl rfl _ rfl ((Blk.new _ _ _).cell 0) (by rw [List.nil_append, nts_len, HPL.out]; omega) (by have := hB2.size; simp; omega) ?_; intro v2 w2 hown2 hg2; have hB3 := (hB2.alloc hB2.size _).grown hg2 (by have := hB2.size; simp; omega) (fun s e => (hown1.lt s e).1); rw [List.nil_append, ← nts_snoc] at hown2; obtain ⟨A2, c2, hv2, hI3, hnn⟩ := own_list hown2; rw [nts_len] at hv2 hnn; subst hv2))
          refine (HRC.out A2 _ c2 w2 (by simp) (HW0.out.trans (hB3.mono HW0.out.size)) hI3 (by simpa using hnn)).mono ?_
          rintro e w3 ⟨v3, b3, rfl, hok3, hb3⟩
          have hB4 := hB3.trans (hb3.mono hB3.size)
          cases F with
          | some r =>
            obtain ⟨hbt, A3, c3, hv3, hI4, hnn3⟩ := hok3
            subst hbt
            subst hv3
            go_wp2
            go_ret2
            exact ⟨_, _, rfl, by rw [HRR.out]; exact ⟨rfl, A3, c3, rfl, hI4, hnn3⟩, hB4⟩
          | none =>
            have hbt : b3 = false := hok3
            subst hbt
            go_wp2
            go_roundw
            case rel => exact ⟨k + 1, by omega, by omega, by go_num, Lib.hid HRR.out.symm, hB4⟩
            case measure => simp [intOf]; omega
        · obtain rfl : k = ss.length := by omega
          have HN : Hid (R = none) := Lib.hid (by rw [← hr.out, List.drop_of_length_le (by simp)]; rfl)
          go_wp2
          go_ret2
          exact ⟨_, _, rfl, by rw [HN.out]; rfl, hB⟩
end Go.Proofs.YtghbipipehglfaaDoor
