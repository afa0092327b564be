/- Merged: P14 P15 P16 P17 P18 P19. -/
import Derived.Test.YtbdnocijhbkclaaGreatDoorPC
import Derived.Lib.Fields
import Derived.Lib.AtoiAllCases
import Derived.Lib.ItoaNum
import Derived.Lib.Join
import Derived.Lib.SpaceU
/- Plain: the text of a form, and how its words are found again (for OrderFormats, OrderParses). -/
namespace Go.Proofs.YtbdnocijhbkclaaGreatDoor.Pl

/-- the decimal digits of a number -/
def dgs (n : Nat) : List UInt8 := if n < 10 then [UInt8.ofNat (48 + n)] else dgs (n / 10) ++ [UInt8.ofNat (48 + n % 10)]
def byt (b : ByteArray) : List UInt8 := b.data.toList
/-- the line of a form -/
def lnT (x : Ln) : List UInt8 := byt x.md ++ 32 :: (dgs x.col.toNat ++ 32 :: (dgs x.siz.toNat ++ 32 :: (dgs x.cnt.toNat ++ [10])))
def ordW : List UInt8 := [79, 82, 68, 69, 82]
def dayW : List UInt8 := [68, 65, 89]
def inW : List UInt8 := [73, 78]
/-- the text of a form -/
def txt (f : Fm) : List UInt8 := ordW ++ 32 :: (byt f.cus ++ 10 :: (dayW ++ 32 :: (dgs f.d.toNat ++ 10 :: (inW ++ 32 :: (byt f.cur ++ 10 :: f.ls.flatMap lnT)))))

/-- a word: it is there, and has no space -/
def Wo (w : List UInt8) : Prop := w ≠ [] ∧ ∀ b, b ∈ w → Lib.isSp b = false
theorem fieldsGo_word : ∀ (w cur rest : List UInt8) (s : UInt8), (∀ b, b ∈ w → Lib.isSp b = false) → Lib.isSp s = true → cur ++ w ≠ [] → Lib.fieldsGo cur (w ++ s :: rest) = (cur ++ w) :: Lib.fieldsGo [] rest
  | [], cur, rest, s, _, hs, h0 => by
    have : cur.isEmpty = false := by cases cur with
      | nil => simp at h0
      | cons a l => rfl
    simp only [List.nil_append, Lib.fieldsGo, hs, this, if_true, List.append_nil]
    rfl
  | b :: w, cur, rest, s, hw, hs, _ => by
    have hb : Lib.isSp b = false := hw b (by simp)
    simp only [List.cons_append, Lib.fieldsGo, hb]
    have := fieldsGo_word w (cur ++ [b]) rest s (fun x hx => hw x (by simp [hx])) hs (by simp)
    simpa using this
theorem fields_word {w : List UInt8} (h : Wo w) {s : UInt8} (hs : Lib.isSp s = true) (rest : List UInt8) : Lib.fields (w ++ s :: rest) = w :: Lib.fields rest := by
  unfold Lib.fields
  have := fieldsGo_word w [] rest s h.2 hs (by simpa using h.1)
  simpa using this
theorem dgs_all (n : Nat) : ∀ b, b ∈ dgs n → 48 ≤ b.toNat ∧ b.toNat ≤ 57 := by
  induction n using Nat.strongRecOn with
  | _ n ih =>
    intro b hb
    unfold dgs at hb
    split at hb
    · rename_i h
      simp only [List.mem_singleton] at hb
      subst hb
      rw [UInt8.toNat_ofNat']; omega
    · rename_i h
      rcases List.mem_append.1 hb with hb | hb
      · exact ih (n / 10) (by omega) b hb
      · simp only [List.mem_singleton] at hb
        subst hb
        rw [UInt8.toNat_ofNat']; omega
theorem dgs_ne (n : Nat) : dgs n ≠ [] := by
  unfold dgs; split <;> simp
theorem sp_dig {b : UInt8} (h : 48 ≤ b.toNat ∧ b.toNat ≤ 57) : Lib.isSp b = false := by
  unfold Lib.isSp
  have e : ∀ c : UInt8, c.toNat < 48 → (b == c) = false := fun c hc => by
    rw [beq_eq_false_iff_ne]; intro e; rw [e] at h; omega
  rw [e 9 (by decide), e 10 (by decide), e 11 (by decide), e 12 (by decide), e 13 (by decide), e 32 (by decide)]; rfl
theorem dgs_word (n : Nat) : Wo (dgs n) := ⟨dgs_ne n, fun b hb => sp_dig (dgs_all n b hb)⟩
/-- the words of the lines -/
def lnW (x : Ln) : List (List UInt8) := [byt x.md, dgs x.col.toNat, dgs x.siz.toNat, dgs x.cnt.toNat]
theorem fields_line {x : Ln} (h : Wo (byt x.md)) (rest : List UInt8) : Lib.fields (lnT x ++ rest) = lnW x ++ Lib.fields rest := by
  unfold lnT lnW
  simp only [List.append_assoc, List.cons_append, List.nil_append]
  rw [fields_word h (by decide), fields_word (dgs_word _) (by decide), fields_word (dgs_word _) (by decide), fields_word (dgs_word _) (by decide)]
theorem fields_lines : ∀ (l : List Ln), (∀ x, x ∈ l → Wo (byt x.md)) → Lib.fields (l.flatMap lnT) = l.flatMap lnW
  | [], _ => rfl
  | x :: l, h => by
    rw [List.flatMap_cons, List.flatMap_cons, fields_line (h x (by simp)), fields_lines l (fun y hy => h y (by simp [hy]))]
/-- the words of a form's text -/
theorem fields_txt {f : Fm} (hc : Wo (byt f.cus)) (hu : Wo (byt f.cur)) (hl : ∀ x, x ∈ f.ls → Wo (byt x.md)) :
    Lib.fields (txt f) = [ordW, byt f.cus, dayW, dgs f.d.toNat, inW, byt f.cur] ++ f.ls.flatMap lnW := by
  unfold txt
  rw [fields_word (by unfold ordW; exact ⟨by simp, by decide⟩) (by decide), fields_word hc (by decide), fields_word (by unfold dayW; exact ⟨by simp, by decide⟩) (by decide), fields_word (dgs_word _) (by decide),
    fields_word (by unfold inW; exact ⟨by simp, by decide⟩) (by decide), fields_word hu (by decide), fields_lines _ hl]
  rfl
/-- the number that digits tell -/
def vlu (l : List UInt8) : Nat := l.foldl (fun n b => 10 * n + (b.toNat - 48)) 0
theorem vlu_snoc (l : List UInt8) (b : UInt8) : vlu (l ++ [b]) = 10 * vlu l + (b.toNat - 48) := by unfold vlu; rw [List.foldl_append]; rfl
theorem vlu_dgs (n : Nat) : vlu (dgs n) = n := by
  induction n using Nat.strongRecOn with
  | _ n ih =>
    unfold dgs
    split
    · rename_i h
      show 10 * 0 + ((UInt8.ofNat (48 + n)).toNat - 48) = n
      rw [UInt8.toNat_ofNat']; omega
    · rename_i h
      rw [vlu_snoc, ih (n / 10) (by omega), UInt8.toNat_ofNat']; omega
theorem dgs_len (n k : Nat) (hk : 0 < k) (h : n < 10 ^ k) : (dgs n).length ≤ k := by
  induction k generalizing n with
  | zero => omega
  | succ k ih =>
    unfold dgs
    split
    · simp
    · rename_i h10
      rw [List.length_append]
      have : n / 10 < 10 ^ k := by rw [Nat.pow_succ] at h; omega
      have hk0 : 0 < k := by
        rcases Nat.eq_zero_or_pos k with e | e
        · subst e; simp at h; omega
        · exact e
      have := ih (n / 10) hk0 this
      simp; omega
/-- the document's split -/
def spl (c : UInt8) : List UInt8 → List UInt8 → List (List UInt8)
  | cur, [] => [cur]
  | cur, b :: l => if b = c then cur :: spl c [] l else spl c (cur ++ [b]) l
theorem spl_word (c : UInt8) : ∀ (w cur rest : List UInt8), (∀ b, b ∈ w → b ≠ c) → spl c cur (w ++ c :: rest) = (cur ++ w) :: spl c [] rest
  | [], cur, rest, _ => by simp [spl]
  | b :: w, cur, rest, h => by
    have hb := h b (by simp)
    simp only [List.cons_append, spl, hb, if_false]
    rw [spl_word c w (cur ++ [b]) rest (fun x hx => h x (by simp [hx]))]; simp
theorem spl_last (c : UInt8) : ∀ (w cur : List UInt8), (∀ b, b ∈ w → b ≠ c) → spl c cur w = [cur ++ w]
  | [], cur, _ => by simp [spl]
  | b :: w, cur, h => by
    have hb := h b (by simp)
    simp only [spl, hb, if_false]
    rw [spl_last c w (cur ++ [b]) (fun x hx => h x (by simp [hx]))]; simp
end Go.Proofs.YtbdnocijhbkclaaGreatDoor.Pl
/- Plain: the text of a form as the document reads it. -/
namespace Go.Proofs.YtbdnocijhbkclaaGreatDoor.Pl

theorem Wo.ne {w : List UInt8} (h : Wo w) {c : UInt8} (hc : Lib.isSp c = true) : ∀ b, b ∈ w → b ≠ c := fun b hb e => by
  have := h.2 b hb; rw [e, hc] at this; cases this
/-- a line without its end -/
def lnS (x : Ln) : List UInt8 := byt x.md ++ 32 :: (dgs x.col.toNat ++ 32 :: (dgs x.siz.toNat ++ 32 :: dgs x.cnt.toNat))
theorem lnT_eq (x : Ln) : lnT x = lnS x ++ [10] := by unfold lnT lnS; simp
theorem mem_word {w r : List UInt8} {b c : UInt8} (hw : ∀ x, x ∈ w → x ≠ c) (h32 : (32 : UInt8) ≠ c) (hr : ∀ x, x ∈ r → x ≠ c) (h : b ∈ w ++ 32 :: r) : b ≠ c := by
  rcases List.mem_append.1 h with h | h
  · exact hw b h
  · rcases List.mem_cons.1 h with h | h
    · rw [h]; exact h32
    · exact hr b h
theorem lnS_ne {x : Ln} (h : Wo (byt x.md)) : ∀ b, b ∈ lnS x → b ≠ 10 := by
  intro b hb
  have hd := fun n => (dgs_word n).ne (c := 10) (by decide)
  exact mem_word (h.ne (by decide)) (by decide) (fun y hy => mem_word (hd _) (by decide) (fun z hz => mem_word (hd _) (by decide) (hd _) hz) hy) hb
theorem spl_lines : ∀ (l : List Ln), (∀ x, x ∈ l → Wo (byt x.md)) → spl 10 [] (l.flatMap lnT) = l.map lnS ++ [[]]
  | [], _ => rfl
  | x :: l, h => by
    rw [List.flatMap_cons, lnT_eq, List.append_assoc]
    show spl 10 [] (lnS x ++ 10 :: l.flatMap lnT) = _
    rw [spl_word 10 _ _ _ (lnS_ne (h x (by simp))), spl_lines l (fun y hy => h y (by simp [hy]))]
    simp
/-- the lines of a form's text -/
theorem spl_txt {f : Fm} (hc : Wo (byt f.cus)) (hu : Wo (byt f.cur)) (hl : ∀ x, x ∈ f.ls → Wo (byt x.md)) :
    spl 10 [] (txt f) = [ordW ++ 32 :: byt f.cus, dayW ++ 32 :: dgs f.d.toNat, inW ++ 32 :: byt f.cur] ++ (f.ls.map lnS ++ [[]]) := by
  have e1 : ∀ b, b ∈ ordW ++ 32 :: byt f.cus → b ≠ 10 := fun b hb => mem_word (by unfold ordW; decide) (by decide) (hc.ne (by decide)) hb
  have e2 : ∀ b, b ∈ dayW ++ 32 :: dgs f.d.toNat → b ≠ 10 := fun b hb => mem_word (by unfold dayW; decide) (by decide) ((dgs_word _).ne (by decide)) hb
  have e3 : ∀ b, b ∈ inW ++ 32 :: byt f.cur → b ≠ 10 := fun b hb => mem_word (by unfold inW; decide) (by decide) (hu.ne (by decide)) hb
  have et : txt f = (ordW ++ 32 :: byt f.cus) ++ 10 :: ((dayW ++ 32 :: dgs f.d.toNat) ++ 10 :: ((inW ++ 32 :: byt f.cur) ++ 10 :: f.ls.flatMap lnT)) := by
    unfold txt; simp only [List.append_assoc, List.cons_append]
  rw [et, spl_word 10 _ _ _ e1, spl_word 10 _ _ _ e2, spl_word 10 _ _ _ e3, spl_lines _ hl]
  simp
/-- the words of a line -/
theorem spl_line {x : Ln} (h : Wo (byt x.md)) : spl 32 [] (lnS x) = lnW x := by
  have hd := fun n => (dgs_word n).ne (c := 32) (by decide)
  unfold lnS lnW
  rw [spl_word 32 _ _ _ (h.ne (by decide)), spl_word 32 _ _ _ (hd _), spl_word 32 _ _ _ (hd _), spl_last 32 _ _ (hd _)]
  simp
/-- the document's number -/
def nmb (l : List UInt8) : Int :=
  if l.length < 1 ∨ 10 < l.length ∨ (l.head? = some 48 ∧ 1 < l.length) then -1
  else if l.all (fun b => decide (48 ≤ b.toNat ∧ b.toNat ≤ 57)) then (vlu l : Int) else -1
theorem dgs_head (n : Nat) (h : 10 ≤ n) : (dgs n).head? ≠ some 48 := by
  induction n using Nat.strongRecOn with
  | _ n ih =>
    unfold dgs
    rw [if_neg (by omega)]
    by_cases h2 : n / 10 < 10
    · unfold dgs
      rw [if_pos h2]
      simp only [List.cons_append, List.nil_append, List.head?_cons, ne_eq, Option.some.injEq]
      intro e
      have := congrArg UInt8.toNat e
      rw [UInt8.toNat_ofNat'] at this
      have : (48 : UInt8).toNat = 48 := rfl
      omega
    · have := ih (n / 10) (by omega) (by omega)
      rw [List.head?_append]
      cases hh : (dgs (n / 10)).head? with
      | none => exact absurd (List.head?_eq_none_iff.1 hh) (dgs_ne _)
      | some b => rw [hh] at this; simpa using this
theorem nmb_dgs (n : Nat) (h : n < 10000000000) : nmb (dgs n) = n := by
  have h1 : ¬ (dgs n).length < 1 := by
    have := dgs_ne n
    cases hh : dgs n with
    | nil => exact absurd hh this
    | cons a l => simp
  have h2 : ¬ 10 < (dgs n).length := by have := dgs_len n 10 (by decide) (by omega); omega
  have h3 : ¬ ((dgs n).head? = some 48 ∧ 1 < (dgs n).length) := fun ⟨e, hl⟩ => by
    rcases Nat.lt_or_ge n 10 with k | k
    · unfold dgs at hl; rw [if_pos k] at hl; simp at hl
    · exact dgs_head n k e
  unfold nmb
  rw [if_neg (by rintro (a | a | a) <;> contradiction), if_pos (by
    rw [List.all_eq_true]; intro b hb; exact decide_eq_true (dgs_all n b hb)), vlu_dgs]
end Go.Proofs.YtbdnocijhbkclaaGreatDoor.Pl
/- Plain: given the text of a valid form, both readers read the form. -/
namespace Go.Proofs.YtbdnocijhbkclaaGreatDoor.Pl

theorem ud_sp {b : UInt8} (h : ud b = true) : Lib.isSp b = false := by
  have := bytes_all (p := fun b => !(ud b) || !(Lib.isSp b)) (q := fun _ => true) (by decide +kernel) b
  rw [h] at this; simpa using this
theorem up_ud {b : UInt8} (h : up b = true) : ud b = true := by unfold ud; rw [h]; rfl
theorem wd_wo {l : List UInt8} (h : wd l = true) : Wo l := by
  unfold wd inB at h
  simp only [Bool.and_eq_true, List.all_eq_true, decide_eq_true_eq] at h
  refine ⟨fun e => ?_, fun b hb => ud_sp (h.2 b hb)⟩
  rw [e] at h; simp at h
theorem cy_wo {l : List UInt8} (h : cy l = true) : Wo l := by
  unfold cy at h
  simp only [Bool.and_eq_true, List.all_eq_true, decide_eq_true_eq] at h
  refine ⟨fun e => ?_, fun b hb => ud_sp (up_ud (h.2 b hb))⟩
  rw [e] at h; simp at h
/-- what a reader finds: customer, day, currency, lines -/
structure Rg where
  cus : List UInt8
  d : Int
  cur : List UInt8
  ls : List Ln
def rgF (f : Fm) : Rg := ⟨byt f.cus, f.d, byt f.cur, f.ls⟩
/-- the lines that words tell, four by four, with a reader of numbers -/
def rdL (nu : List UInt8 → Int) : List (List UInt8) → List Ln
  | a :: b :: c :: d :: r => ⟨⟨a.toArray⟩, nu b, nu c, nu d⟩ :: rdL nu r
  | _ => []
/-- the program's reading of words -/
def rdF (nu : List UInt8 → Int) (ws : List (List UInt8)) : Option Rg :=
  if ws.length < 6 ∨ ws.length % 4 ≠ 2 then none else some ⟨ws.getD 1 [], nu (ws.getD 3 []), ws.getD 5 [], rdL nu (ws.drop 6)⟩
theorem byt_back (b : ByteArray) : (⟨(byt b).toArray⟩ : ByteArray) = b := by cases b; simp [byt]
theorem len_lines (l : List Ln) : (l.flatMap lnW).length = 4 * l.length := by
  induction l with
  | nil => rfl
  | cons x l ih => rw [List.flatMap_cons, List.length_append, ih, List.length_cons]; simp [lnW]; omega
theorem rdL_lines {nu : List UInt8 → Int} (hnu : ∀ n : Nat, n < 10000000000 → nu (dgs n) = n) : ∀ (l : List Ln), (∀ x, x ∈ l → Vl x) → rdL nu (l.flatMap lnW) = l
  | [], _ => rfl
  | x :: l, h => by
    have hx := h x (by simp)
    obtain ⟨a1, a2, a3, a4, a5, a6, a7⟩ := hx
    rw [List.flatMap_cons]
    show rdL nu (byt x.md :: dgs x.col.toNat :: dgs x.siz.toNat :: dgs x.cnt.toNat :: l.flatMap lnW) = _
    unfold rdL
    rw [hnu _ (by omega), hnu _ (by omega), hnu _ (by omega), byt_back, rdL_lines hnu l (fun y hy => h y (by simp [hy])), show ((x.col.toNat : Nat) : Int) = x.col by omega, show ((x.siz.toNat : Nat) : Int) = x.siz by omega, show ((x.cnt.toNat : Nat) : Int) = x.cnt by omega]
theorem fields_vf {f : Fm} (h : Vf f) : Lib.fields (txt f) = [ordW, byt f.cus, dayW, dgs f.d.toNat, inW, byt f.cur] ++ f.ls.flatMap lnW :=
  fields_txt (wd_wo h.cus) (cy_wo h.cur) (fun x hx => wd_wo (h.ls x hx).md)
/-- given the text of a valid form the program reads it -/
theorem rdF_txt {nu : List UInt8 → Int} (hnu : ∀ n : Nat, n < 10000000000 → nu (dgs n) = n) {f : Fm} (h : Vf f) : rdF nu (Lib.fields (txt f)) = some (rgF f) := by
  rw [fields_vf h]
  have hd0 := h.d0
  have hd1 := h.d1
  have hl := len_lines f.ls
  unfold rdF
  rw [if_neg (by
    rw [List.length_append, hl]; simp <;> omega)]
  simp only [List.getD_eq_getElem?_getD, List.cons_append, List.nil_append, List.getElem?_cons_succ, List.getElem?_cons_zero, Option.getD_some, List.drop_succ_cons, List.drop_zero]
  rw [hnu _ (by omega), rdL_lines hnu _ h.ls]
  unfold rgF
  rw [show ((f.d.toNat : Nat) : Int) = f.d by omega]
/-- what stands behind a word and a space, or nothing -/
def bhd (w s : List UInt8) : List UInt8 := if s.length ≤ w.length ∨ s.take w.length ≠ w ∨ s[w.length]? ≠ some 32 then [] else s.drop (w.length + 1)
theorem bhd_of (w r : List UInt8) : bhd w (w ++ 32 :: r) = r := by
  unfold bhd
  rw [if_neg (by
    rintro (h | h | h)
    · simp at h; omega
    · exact h (by simp)
    · exact h (by rw [List.getElem?_append_right (Nat.le_refl _)]; simp))]
  rw [List.drop_append]; simp
/-- the lines that the document reads, or none -/
def rdM : List (List UInt8) → Option (List Ln)
  | [] => some []
  | s :: r => match spl 32 [] s with
    | [a, b, c, d] => (rdM r).map fun l => ⟨⟨a.toArray⟩, nmb b, nmb c, nmb d⟩ :: l
    | _ => none
/-- the document's reading of lines -/
def rdD (l : List (List UInt8)) : Option Rg :=
  if l.length < 5 then none
  else (rdM ((l.drop 3).take (l.length - 4))).map fun ls => ⟨bhd ordW (l.getD 0 []), nmb (bhd dayW (l.getD 1 [])), bhd inW (l.getD 2 []), ls⟩
theorem rdM_lines : ∀ (l : List Ln), (∀ x, x ∈ l → Vl x) → rdM (l.map lnS) = some l
  | [], _ => rfl
  | x :: l, h => by
    have hx := h x (by simp)
    have hw := spl_line (wd_wo hx.md)
    obtain ⟨a1, a2, a3, a4, a5, a6, a7⟩ := hx
    rw [List.map_cons]
    unfold rdM
    rw [hw, rdM_lines l (fun y hy => h y (by simp [hy]))]
    simp only [lnW, Option.map_some]
    rw [nmb_dgs _ (by omega), nmb_dgs _ (by omega), nmb_dgs _ (by omega), byt_back, show ((x.col.toNat : Nat) : Int) = x.col by omega, show ((x.siz.toNat : Nat) : Int) = x.siz by omega, show ((x.cnt.toNat : Nat) : Int) = x.cnt by omega]
/-- given the text of a valid form the document reads it -/
theorem rdD_txt {f : Fm} (h : Vf f) : rdD (spl 10 [] (txt f)) = some (rgF f) := by
  rw [spl_txt (wd_wo h.cus) (cy_wo h.cur) (fun x hx => wd_wo (h.ls x hx).md)]
  have hd0 := h.d0
  have hd1 := h.d1
  have h1 := h.n0
  unfold rdD
  rw [if_neg (by simp; omega)]
  have e : (([ordW ++ 32 :: byt f.cus, dayW ++ 32 :: dgs f.d.toNat, inW ++ 32 :: byt f.cur] ++ (f.ls.map lnS ++ [[]])).drop 3).take (([ordW ++ 32 :: byt f.cus, dayW ++ 32 :: dgs f.d.toNat, inW ++ 32 :: byt f.cur] ++ (f.ls.map lnS ++ [[]])).length - 4) = f.ls.map lnS := by
    simp only [List.cons_append, List.nil_append, List.drop_succ_cons, List.drop_zero, List.length_cons, List.length_append, List.length_map, List.length_nil]
    rw [List.take_append_of_le_length (by simp <;> omega), List.take_of_length_le (by simp <;> omega)]
  rw [e, rdM_lines _ h.ls]
  simp only [Option.map_some, List.getD_eq_getElem?_getD, List.cons_append, List.nil_append, List.getElem?_cons_succ, List.getElem?_cons_zero, Option.getD_some, bhd_of]
  rw [nmb_dgs _ (by omega)]
  unfold rgF
  rw [show ((f.d.toNat : Nat) : Int) = f.d by omega]
end Go.Proofs.YtbdnocijhbkclaaGreatDoor.Pl
/- Plain: the library's words for numbers and joined texts, held against dgs and txt. -/
namespace Go.Proofs.YtbdnocijhbkclaaGreatDoor.Pl

theorem dec_dgs (n : Nat) : Lib.decDigits n = dgs n := by
  induction n using Nat.strongRecOn with
  | _ n ih =>
    rw [Lib.decDigits]
    unfold dgs
    by_cases h : n < 10
    · rw [dif_pos h, if_pos h]
    · rw [dif_neg h, if_neg h, ih (n / 10) (by omega)]
theorem itoa_dgs {n : Int} (h : 0 ≤ n) : Lib.itoa n = dgs n.toNat := by
  unfold Lib.itoa
  rw [if_neg (by omega), dec_dgs]
theorem pu10 : ∀ (l : List UInt8) (acc : Nat), (∀ b, b ∈ l → 48 ≤ b.toNat ∧ b.toNat ≤ 57) → (acc + 1) * 10 ^ l.length ≤ 1000000000000000000 → Lib.parseUint10 acc l = .ok (l.foldl (fun n b => 10 * n + (b.toNat - 48)) acc)
  | [], acc, _, _ => rfl
  | c :: r, acc, h, hb => by
    have hc := h c (by simp)
    have h10 : 1 ≤ 10 ^ r.length := Nat.pos_of_ne_zero (by simp)
    rw [List.length_cons, Nat.pow_succ] at hb
    have hb2 : (acc + 1) * 10 * 10 ^ r.length ≤ 1000000000000000000 := by rw [Nat.mul_assoc, Nat.mul_comm 10]; exact hb
    have hb3 : (acc + 1) * 10 ≤ 1000000000000000000 := Nat.le_trans (Nat.le_mul_of_pos_right _ h10) hb2
    simp only [Lib.parseUint10]
    rw [if_pos hc, if_neg (by omega), if_neg (by omega), List.foldl_cons, show 10 * acc + (c.toNat - 48) = acc * 10 + (c.toNat - 48) by omega]
    exact pu10 r _ (fun b hb => h b (by simp [hb])) (Nat.le_trans (Nat.mul_le_mul_right _ (by omega)) hb2)
/-- the program's number: -1 for what is none -/
def nuP (l : List UInt8) : Int := match Lib.atoiAll l with
  | .ok v => v
  | _ => -1
theorem atoi_dgs {n : Nat} (h : n < 10000000000) : Lib.atoiAll (dgs n) = .ok n := by
  have hl := dgs_len n 10 (by decide) (by omega)
  have hne := dgs_ne n
  have ha := dgs_all n
  have hv := vlu_dgs n
  unfold vlu at hv
  generalize dgs n = l at *
  cases l with
  | nil => exact absurd rfl hne
  | cons c r =>
    have hc := ha c (by simp)
    have hp := pu10 (c :: r) 0 ha (Nat.le_trans (Nat.mul_le_mul_left _ (Nat.pow_le_pow_right (by decide) hl)) (by decide))
    rw [Lib.atoiAll_plain c r (by omega) (by omega)]
    unfold Lib.parseMag
    rw [if_neg (by simp), hp, hv]
    unfold Lib.signless
    simp only []
    rw [if_neg (by omega)]
theorem nuP_dgs (n : Nat) (h : n < 10000000000) : nuP (dgs n) = n := by unfold nuP; rw [atoi_dgs h]
/-- the rows of the text of a form -/
def rowsT (f : Fm) : List (List UInt8) := (ordW ++ 32 :: byt f.cus) :: (dayW ++ 32 :: dgs f.d.toNat) :: (inW ++ 32 :: byt f.cur) :: f.ls.map lnS
theorem joinTail_lines : ∀ (l : List Ln), Lib.joinTail [10] (l.map lnS) ++ [10] = 10 :: l.flatMap lnT
  | [] => rfl
  | x :: l => by
    have ih := joinTail_lines l
    unfold Lib.joinTail at ih ⊢
    rw [List.map_cons, List.map_cons, List.flatten_cons, List.append_assoc, ih, List.flatMap_cons, lnT_eq]; simp
/-- the rows joined are the text -/
theorem join_rows (f : Fm) : Lib.join (rowsT f) [10] ++ [10] = txt f := by
  unfold rowsT
  rw [Lib.join_cons]
  have h := joinTail_lines f.ls
  unfold Lib.joinTail at h ⊢
  simp only [List.map_cons, List.flatten_cons, List.append_assoc]
  rw [h]
  unfold txt
  simp
theorem join_words (x : Ln) : Lib.join [byt x.md, dgs x.col.toNat, dgs x.siz.toNat, dgs x.cnt.toNat] [32] = lnS x := by
  rw [Lib.join_cons]
  unfold Lib.joinTail lnS
  simp
theorem lnS_len {x : Ln} (h : Vl x) : (lnS x).length ≤ 30 := by
  obtain ⟨a1, a2, a3, a4, a5, a6, a7⟩ := h
  unfold wdB wd inB at a1
  simp only [Bool.and_eq_true, decide_eq_true_eq] at a1
  have h1 := dgs_len x.col.toNat 1 (by decide) (by omega)
  have h2 := dgs_len x.siz.toNat 10 (by decide) (by omega)
  have h3 := dgs_len x.cnt.toNat 4 (by decide) (by omega)
  have h0 : (byt x.md).length ≤ 12 := by unfold byt; omega
  unfold lnS
  simp
  omega
theorem lines_len : ∀ (l : List Ln), (∀ x, x ∈ l → Vl x) → (l.flatMap lnT).length ≤ l.length * 31
  | [], _ => by simp
  | x :: l, h => by
    have := lines_len l (fun y hy => h y (by simp [hy]))
    have := lnS_len (h x (by simp))
    rw [List.flatMap_cons, List.length_append, lnT_eq, List.length_append, List.length_cons]
    simp only [List.length_cons, List.length_nil]
    omega
/-- how long the text of a valid form is -/
theorem txt_len {f : Fm} (h : Vf f) : (txt f).length ≤ 1277 := by
  have h1 := lines_len f.ls h.ls
  have h2 := h.cus
  have h3 := h.cur
  have h4 := h.d0
  have h5 := h.d1
  have h6 := h.n1
  unfold wdB wd inB at h2
  unfold cyB cy at h3
  simp only [Bool.and_eq_true, decide_eq_true_eq] at h2 h3
  have h7 := dgs_len f.d.toNat 6 (by decide) (by omega)
  have h8 : (byt f.cus).length ≤ 12 := by unfold byt; omega
  have h9 : (byt f.cur).length = 3 := by unfold byt; exact h3.1
  unfold txt ordW dayW inW
  generalize f.ls.flatMap lnT = r at *
  simp
  omega
end Go.Proofs.YtbdnocijhbkclaaGreatDoor.Pl
/- Plain: what the readers find, and that only the text of a valid form is read. -/
namespace Go.Proofs.YtbdnocijhbkclaaGreatDoor.Pl

theorem rdM_snoc {s a b c d : List UInt8} (hs : spl 32 [] s = [a, b, c, d]) : ∀ {l : List (List UInt8)} {xs : List Ln}, rdM l = some xs → rdM (l ++ [s]) = some (xs ++ [⟨⟨a.toArray⟩, nmb b, nmb c, nmb d⟩])
  | [], xs, h => by
    have : xs = [] := by unfold rdM at h; exact (Option.some.inj h).symm
    subst this
    show rdM [s] = _
    unfold rdM
    rw [hs]
    rfl
  | x :: l, xs, h => by
    rw [List.cons_append]
    unfold rdM at h ⊢
    match hx : spl 32 [] x with
    | [a', b', c', d'] =>
      rw [hx] at h
      simp only at h ⊢
      obtain ⟨ys, hy, rfl⟩ := Option.map_eq_some_iff.1 h
      rw [rdM_snoc hs hy]
      rfl
    | [] => rw [hx] at h; cases h
    | [_] => rw [hx] at h; cases h
    | [_, _] => rw [hx] at h; cases h
    | [_, _, _] => rw [hx] at h; cases h
    | _ :: _ :: _ :: _ :: _ :: _ => rw [hx] at h; cases h
theorem rdM_four : ∀ {l : List (List UInt8)} {xs : List Ln}, rdM l = some xs → ∀ (k : Nat) (hk : k < l.length), (spl 32 [] l[k]).length = 4
  | [], xs, h, k, hk => by simp at hk
  | x :: l, xs, h, k, hk => by
    unfold rdM at h
    match hx : spl 32 [] x with
    | [a', b', c', d'] =>
      rw [hx] at h
      simp only at h
      obtain ⟨ys, hy, rfl⟩ := Option.map_eq_some_iff.1 h
      cases k with
      | zero => show (spl 32 [] x).length = 4; rw [hx]; rfl
      | succ k => exact rdM_four hy k (by simpa using hk)
    | [] => rw [hx] at h; cases h
    | [_] => rw [hx] at h; cases h
    | [_, _] => rw [hx] at h; cases h
    | [_, _, _] => rw [hx] at h; cases h
    | _ :: _ :: _ :: _ :: _ :: _ => rw [hx] at h; cases h
theorem rdM_bad {l : List (List UInt8)} {k : Nat} (hk : k < l.length) (h : (spl 32 [] l[k]).length ≠ 4) : rdM l = none := by
  cases hr : rdM l with
  | none => rfl
  | some xs => exact absurd (rdM_four hr k hk) h
theorem spl_le (c : UInt8) : ∀ (l cur x : List UInt8), x ∈ spl c cur l → x.length ≤ cur.length + l.length
  | [], cur, x, h => by simp [spl] at h; subst h; simp
  | b :: l, cur, x, h => by
    unfold spl at h
    split at h
    · rcases List.mem_cons.1 h with h | h
      · subst h; simp
      · have := spl_le c l [] x h; simp at this ⊢; omega
    · have := spl_le c l _ x h; simp at this ⊢; omega
theorem spl_count (c : UInt8) : ∀ (l cur : List UInt8), 1 ≤ (spl c cur l).length ∧ (spl c cur l).length ≤ l.length + 1
  | [], cur => by simp [spl]
  | b :: l, cur => by
    unfold spl
    split
    · have := spl_count c l []; simp; omega
    · have := spl_count c l (cur ++ [b]); simp; omega
/-- the form that a reader has found, its lines at A -/
def fmR (g : Rg) (A : Option Addr) (k : Nat) : Fm := ⟨⟨g.cus.toArray⟩, g.d, ⟨g.cur.toArray⟩, g.ls, A, k⟩
theorem fmR_of (f : Fm) (A : Option Addr) (k : Nat) : fmR (rgF f) A k = ⟨f.cus, f.d, f.cur, f.ls, A, k⟩ := by unfold fmR rgF; rw [byt_back, byt_back]
theorem vf_fmR {f : Fm} (h : Vf f) (A : Option Addr) (k : Nat) : Vf (fmR (rgF f) A k) := by
  rw [fmR_of]
  exact ⟨h.cus, h.d0, h.d1, h.cur, h.n0, h.n1, h.ls⟩
theorem txt_fmR (f : Fm) (A : Option Addr) (k : Nat) : txt (fmR (rgF f) A k) = txt f := by
  rw [fmR_of]; rfl
/-- if a reader finds of the text of a valid form that form, and what it found of this text is none of the sort, the text is that of no valid form -/
theorem rg_no {t : List UInt8} {g : Rg} {A : Option Addr} {k : Nat} (h : ∀ f, Vf f → txt f = t → rgF f = g) (hn : ¬ (Vf (fmR g A k) ∧ txt (fmR g A k) = t)) (f : Fm) (hf : Vf f) : txt f ≠ t := fun e => by
  have := h f hf e
  subst this
  exact hn ⟨vf_fmR hf A k, by rw [txt_fmR, e]⟩
theorem rdD_is {t : List UInt8} {o : Option Rg} (h : rdD (spl 10 [] t) = o) (f : Fm) (hf : Vf f) (e : txt f = t) : o = some (rgF f) := by rw [← h, ← e, rdD_txt hf]
/-- two valid forms with one text are the same but for their places -/
theorem txt_inj {f g : Fm} (hf : Vf f) (hg : Vf g) (h : txt f = txt g) : f.cus = g.cus ∧ f.d = g.d ∧ f.cur = g.cur ∧ f.ls = g.ls := by
  have h1 := rdD_txt hf
  rw [h, rdD_txt hg] at h1
  have h2 := Option.some.inj h1
  unfold rgF at h2
  simp only [Rg.mk.injEq] at h2
  obtain ⟨a, b, c, d⟩ := h2
  refine ⟨?_, b.symm, ?_, d.symm⟩
  · rw [← byt_back f.cus, ← a, byt_back]
  · rw [← byt_back f.cur, ← c, byt_back]
theorem rdF_is {nu : List UInt8 → Int} (hnu : ∀ n : Nat, n < 10000000000 → nu (dgs n) = n) {t : List UInt8} {o : Option Rg} (h : rdF nu (Lib.fields t) = o) (f : Fm) (hf : Vf f) (e : txt f = t) : o = some (rgF f) := by rw [← h, ← e, rdF_txt hnu hf]
theorem bhd_le (w s : List UInt8) : (bhd w s).length ≤ s.length := by
  unfold bhd
  split
  · simp
  · simp
theorem rdD_short {L : List (List UInt8)} (h : L.length < 5) : rdD L = none := if_pos h
theorem rdD_bad {L : List (List UInt8)} {k : Nat} (h5 : 5 ≤ L.length) (hk : k + 4 < L.length) (h : (spl 32 [] (L[k + 3]'(by omega))).length ≠ 4) : rdD L = none := by
  unfold rdD
  rw [if_neg (by omega), rdM_bad (k := k) (by simp; omega) (by
    rw [List.getElem_take, List.getElem_drop]
    have e : L[3 + k]'(by omega) = L[k + 3]'(by omega) := by congr 1; omega
    rw [e]; exact h)]
  rfl
theorem rdD_good {L : List (List UInt8)} {xs : List Ln} (h5 : 5 ≤ L.length) (h : rdM ((L.drop 3).take (L.length - 4)) = some xs) : rdD L = some ⟨bhd ordW (L.getD 0 []), nmb (bhd dayW (L.getD 1 [])), bhd inW (L.getD 2 []), xs⟩ := by
  unfold rdD
  rw [if_neg (by omega), h]
  rfl
end Go.Proofs.YtbdnocijhbkclaaGreatDoor.Pl
/- Plain: the lines of words, four by four; how many words a text has. -/
namespace Go.Proofs.YtbdnocijhbkclaaGreatDoor.Pl

def lnAt (nu : List UInt8 → Int) (ws : List (List UInt8)) (x : Nat) : Ln := ⟨⟨(ws.getD (x * 4) []).toArray⟩, nu (ws.getD (x * 4 + 1) []), nu (ws.getD (x * 4 + 2) []), nu (ws.getD (x * 4 + 3) [])⟩
theorem rdL_map (nu : List UInt8 → Int) : ∀ (m : Nat) (ws : List (List UInt8)), ws.length = m * 4 → rdL nu ws = (List.range m).map (lnAt nu ws)
  | 0, ws, h => by
    have : ws = [] := List.length_eq_zero_iff.1 (by omega)
    subst this
    rfl
  | m + 1, ws, h => by
    match ws, h with
    | a :: b :: c :: d :: r, h =>
      have hr : r.length = m * 4 := by simp at h; omega
      unfold rdL
      rw [rdL_map nu m r hr, List.range_succ_eq_map, List.map_cons, List.map_map]
      congr 1
      apply List.map_congr_left
      intro x _
      unfold lnAt
      simp only [Function.comp, Nat.succ_eq_add_one]
      rw [show (x + 1) * 4 = x * 4 + 4 by omega, show x * 4 + 4 + 1 = x * 4 + 1 + 4 by omega, show x * 4 + 4 + 2 = x * 4 + 2 + 4 by omega, show x * 4 + 4 + 3 = x * 4 + 3 + 4 by omega]
      simp only [List.getD_eq_getElem?_getD, List.getElem?_cons_succ]
    | [], h => simp at h
    | [_], h => simp at h; omega
    | [_, _], h => simp at h; omega
    | [_, _, _], h => simp at h; omega
/-- the lines of the first rounds -/
def dL {m : Nat} (nu : List UInt8 → Int) (ws : List (List UInt8)) (pre : List (Fin m)) : List Ln := pre.map fun x => lnAt nu ws x.1
theorem dL_snoc {m : Nat} (nu : List UInt8 → Int) (ws : List (List UInt8)) (pre : List (Fin m)) (x : Fin m) : dL nu ws (pre ++ [x]) = dL nu ws pre ++ [lnAt nu ws x.1] := by unfold dL; simp
theorem dL_len {m : Nat} (nu : List UInt8 → Int) (ws : List (List UInt8)) (pre : List (Fin m)) : (dL nu ws pre).length = pre.length := by unfold dL; simp
theorem dL_all (nu : List UInt8 → Int) (ws : List (List UInt8)) (m : Nat) (h : ws.length = m * 4) : dL nu ws (List.finRange m) = rdL nu ws := by
  rw [rdL_map nu m ws h]
  unfold dL
  apply List.ext_getElem
  · simp
  · intro i h1 h2
    simp
theorem fgo_len : ∀ (f : Nat) (cur l : List UInt8), (Lib.fieldsGoD f cur l).length ≤ f + 1
  | 0, cur, l => by unfold Lib.fieldsGoD; split <;> simp
  | f + 1, cur, l => by
    unfold Lib.fieldsGoD
    split
    · split <;> simp
    · split
      · have := fgo_len f [] (l.drop (Lib.decodeL l).2)
        rw [List.length_append]
        split <;> simp <;> omega
      · have := fgo_len f (cur ++ l.take (Lib.decodeL l).2) (l.drop (Lib.decodeL l).2)
        omega
theorem fgo_mem : ∀ (f : Nat) (cur l x : List UInt8), x ∈ Lib.fieldsGoD f cur l → x.length ≤ cur.length + l.length
  | 0, cur, l, x, h => by
    unfold Lib.fieldsGoD at h
    split at h
    · simp at h
    · simp at h; subst h; omega
  | f + 1, cur, l, x, h => by
    unfold Lib.fieldsGoD at h
    split at h
    · split at h
      · simp at h
      · simp at h; subst h; omega
    · split at h
      · rcases List.mem_append.1 h with h | h
        · split at h
          · simp at h
          · simp at h; subst h; omega
        · have := fgo_mem f [] _ x h
          simp at this; omega
      · have := fgo_mem f _ _ x h
        simp at this; omega
theorem fields_many (l : List UInt8) : (Lib.fieldsD l).length ≤ l.length + 2 := fgo_len _ _ _
theorem fields_le {l x : List UInt8} (h : x ∈ Lib.fieldsD l) : x.length ≤ l.length := by have := fgo_mem _ _ _ _ h; simpa using this
/-- the text of a valid form is of ASCII -/
theorem txt_ascii {f : Fm} (h : Vf f) : ∀ b, b ∈ txt f → b.toNat < 128 := by
  have hu : ∀ b, ud b = true → b.toNat < 128 := fun b hb => by
    have := bytes_all (p := fun b => !(ud b) || decide (b.toNat < 128)) (q := fun _ => true) (by decide +kernel) b
    rw [hb] at this; simpa using this
  have hd : ∀ n b, b ∈ dgs n → b.toNat < 128 := fun n b hb => by have := dgs_all n b hb; omega
  have hw : ∀ s : ByteArray, wdB s = true → ∀ b, b ∈ byt s → b.toNat < 128 := fun s hs b hb => by
    unfold wdB wd at hs
    simp only [Bool.and_eq_true, List.all_eq_true] at hs
    exact hu b (hs.2 b hb)
  have hc : ∀ s : ByteArray, cyB s = true → ∀ b, b ∈ byt s → b.toNat < 128 := fun s hs b hb => by
    unfold cyB cy at hs
    simp only [Bool.and_eq_true, List.all_eq_true] at hs
    exact hu b (up_ud (hs.2 b hb))
  have hl : ∀ b, b ∈ f.ls.flatMap lnT → b.toNat < 128 := fun b hb => by
    obtain ⟨x, hx, hb⟩ := List.mem_flatMap.1 hb
    have hm := hw x.md (h.ls x hx).md
    unfold lnT at hb
    simp only [List.mem_append, List.mem_cons, List.mem_nil_iff, or_false] at hb
    rcases hb with hb | rfl | hb | rfl | hb | rfl | hb | rfl
    · exact hm b hb
    · decide
    · exact hd _ b hb
    · decide
    · exact hd _ b hb
    · decide
    · exact hd _ b hb
    · decide
  intro b hb
  unfold txt ordW dayW inW at hb
  simp only [List.mem_append, List.mem_cons, List.mem_nil_iff, or_false] at hb
  rcases hb with (rfl | rfl | rfl | rfl | rfl) | rfl | hb | rfl | (rfl | rfl | rfl) | rfl | hb | rfl | (rfl | rfl) | rfl | hb | rfl | hb
  all_goals first | decide | exact hw _ h.cus b hb | exact hd _ b hb | exact hc _ h.cur b hb | exact hl b hb
end Go.Proofs.YtbdnocijhbkclaaGreatDoor.Pl
