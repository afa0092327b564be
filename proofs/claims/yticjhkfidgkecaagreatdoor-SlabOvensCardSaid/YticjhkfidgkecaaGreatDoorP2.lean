/- Plain: the text of a recipe, and the recipe of a text. It imports nothing of the program. -/
import Derived.Test.YticjhkfidgkecaaGreatDoorP1
namespace Go.Proofs.YticjhkfidgkecaaGreatDoor.Pl

def wd (op : Int) : List UInt8 :=
  if op = 2 then [115, 116, 97, 99, 107] else if op = 3 then [116, 117, 114, 110] else if op = 4 then [115, 108, 105, 99, 101] else if op = 5 then [102, 108, 105, 112] else if op = 6 then [114, 101, 112, 101, 97, 116] else []
/-- how many numbers, and how many parts, a block with an Op has -/
def nNum (op : Int) : Nat := if op = 1 then 3 else if op = 4 then 2 else if op = 6 then 1 else 0
def nPart (op : Int) : Nat := if op = 1 then 0 else if op = 2 then 2 else 1

def isDig (c : UInt8) : Bool := decide (48 ≤ c.toNat) && decide (c.toNat ≤ 57)
def dg (n : Nat) : UInt8 := UInt8.ofNat (48 + n)
/-- the decimal digits of a number from 0 to 999 -/
def dec (n : Int) : List UInt8 :=
  let k := n.toNat
  if k < 10 then [dg k] else if k < 100 then [dg (k / 10), dg (k % 10)] else [dg (k / 100), dg (k / 10 % 10), dg (k % 10)]
def digs (s : List UInt8) : List UInt8 := s.takeWhile isDig
def val (ds : List UInt8) : Nat := ds.foldl (fun n c => 10 * n + (c.toNat - 48)) 0
def OkNum (ds : List UInt8) : Prop := 1 ≤ ds.length ∧ ds.length ≤ 3 ∧ (2 ≤ ds.length → ds.head? ≠ some 48)
instance (ds : List UInt8) : Decidable (OkNum ds) := by unfold OkNum; infer_instance
def pNum (s : List UInt8) : Option (Int × List UInt8) := if OkNum (digs s) then some ((val (digs s) : Int), s.drop (digs s).length) else none
def strip (p s : List UInt8) : Option (List UInt8) := if p <+: s then some (s.drop p.length) else none
def pNums : Nat → List UInt8 → Option (List Int × List UInt8)
  | 0, s => some ([], s)
  | k + 1, s => match strip [32] s with
    | none => none
    | some s1 => match pNum s1 with
      | none => none
      | some (n, s2) => match pNums k s2 with
        | none => none
        | some (ns, s3) => some (n :: ns, s3)
/-- the Op with whose word a text begins; 1 if with none -/
def pOp (s : List UInt8) : Int :=
  if wd 2 ++ [32] <+: s then 2 else if wd 3 ++ [32] <+: s then 3 else if wd 4 ++ [32] <+: s then 4 else if wd 5 ++ [32] <+: s then 5 else if wd 6 ++ [32] <+: s then 6 else 1
def mk (op ax col : Int) (ns : List Int) : Hd := ⟨op, ax, col, ns.getD 0 0, ns.getD 1 0, ns.getD 2 0⟩
def pAx (c : UInt8) : Option Int := if c = 120 then some 0 else if c = 121 then some 1 else if c = 122 then some 2 else none
def isCol (c : UInt8) : Bool := decide (97 ≤ c.toNat) && decide (c.toNat ≤ 105)
def pParts (p : List UInt8 → Option (Tree × List UInt8)) : Nat → List UInt8 → List UInt8 → Option (List Tree × List UInt8)
  | 0, _, s => some ([], s)
  | k + 1, m, s => match strip m s with
    | none => none
    | some s1 => match p s1 with
      | none => none
      | some (t, s2) => match pParts p k [44, 32] s2 with
        | none => none
        | some (ts, s3) => some (t :: ts, s3)
/-- a block of one colour -/
def pSolid : List UInt8 → Option (Tree × List UInt8)
  | [] => none
  | c :: r => if isCol c = true then
      match pNums 3 r with
      | none => none
      | some (ns, r1) => some (.node (mk 1 0 c.toNat ns) [], r1)
    else none
/-- what follows the word of an Op -/
def pWork (p : List UInt8 → Option (Tree × List UInt8)) (op : Int) : List UInt8 → Option (Tree × List UInt8)
  | [] => none
  | c :: r => match pAx c with
    | none => none
    | some ax => match pNums (nNum op) r with
      | none => none
      | some (ns, r1) => match pParts p (nPart op) [32, 40] r1 with
        | none => none
        | some (ps, r2) => match strip [41] r2 with
          | none => none
          | some r3 => some (.node (mk op ax 0 ns) ps, r3)
def pRec : Nat → List UInt8 → Option (Tree × List UInt8)
  | 0, _ => none
  | f + 1, s => if pOp s = 1 then pSolid s else pWork (pRec f) (pOp s) (s.drop ((wd (pOp s)).length + 1))

def nums (h : Hd) : List Int := if nNum h.op = 3 then [h.n0, h.n1, h.n2] else if nNum h.op = 2 then [h.n0, h.n1] else if nNum h.op = 1 then [h.n0] else []
def txtN (ns : List Int) : List UInt8 := ns.flatMap fun n => 32 :: dec n
mutual
def txt : Tree → List UInt8
  | .node h ps => if h.op = 1 then UInt8.ofNat h.col.toNat :: txtN (nums h) else wd h.op ++ [32, UInt8.ofNat (120 + h.ax.toNat)] ++ txtN (nums h) ++ txtL [32, 40] ps ++ [41]
def txtL : List UInt8 → List Tree → List UInt8
  | _, [] => []
  | m, t :: ts => m ++ txt t ++ txtL [44, 32] ts
end

theorem strip_some {p s r : List UInt8} (h : strip p s = some r) : s = p ++ r := by
  unfold strip at h
  split at h
  · rename_i hp
    cases h
    obtain ⟨t, rfl⟩ := hp
    simp
  · cases h
theorem strip_app (p r : List UInt8) : strip p (p ++ r) = some r := by
  unfold strip
  rw [if_pos (List.prefix_append p r)]
  simp

theorem dg_dig {k : Nat} (h : k < 10) : isDig (dg k) = true ∧ (dg k).toNat - 48 = k := by
  have : ∀ k : Fin 10, isDig (dg k) = true ∧ (dg k).toNat - 48 = k := by decide
  exact this ⟨k, h⟩
theorem dec_facts (n : Int) (h0 : 0 ≤ n) (h1 : n ≤ 999) : (∀ c, c ∈ dec n → isDig c = true) ∧ OkNum (dec n) ∧ (val (dec n) : Int) = n := by
  obtain ⟨k, rfl⟩ := Int.eq_ofNat_of_zero_le h0
  have hk : k ≤ 999 := by omega
  have dz : ∀ j : Fin 10, 0 < j.val → dg j ≠ 48 := by decide
  unfold dec
  dsimp only
  rw [Int.toNat_natCast]
  split
  · rename_i h
    obtain ⟨a, b⟩ := dg_dig h
    refine ⟨by simpa using a, ⟨by simp, by simp, by simp⟩, ?_⟩
    simp [val, b]
  · split
    · rename_i h2 h
      obtain ⟨a, b⟩ := dg_dig (show k / 10 < 10 by omega)
      obtain ⟨c, d⟩ := dg_dig (show k % 10 < 10 by omega)
      refine ⟨by simp [a, c], ⟨by simp, by simp, fun _ => ?_⟩, ?_⟩
      · have := dz ⟨k / 10, by omega⟩ (show 0 < k / 10 by omega)
        simpa using this
      · simp only [val, List.foldl_cons, List.foldl_nil, b, d]; omega
    · rename_i h2 h
      obtain ⟨a, b⟩ := dg_dig (show k / 100 < 10 by omega)
      obtain ⟨c, d⟩ := dg_dig (show k / 10 % 10 < 10 by omega)
      obtain ⟨e, f⟩ := dg_dig (show k % 10 < 10 by omega)
      refine ⟨by simp [a, c, e], ⟨by simp, by simp, fun _ => ?_⟩, ?_⟩
      · have := dz ⟨k / 100, by omega⟩ (show 0 < k / 100 by omega)
        simpa using this
      · simp only [val, List.foldl_cons, List.foldl_nil, b, d, f]; omega
theorem digs_app {ds r : List UInt8} (hd : ∀ c, c ∈ ds → isDig c = true) (hr : ∀ c, r.head? = some c → isDig c = false) : digs (ds ++ r) = ds := by
  unfold digs
  rw [List.takeWhile_append_of_pos hd]
  cases r with
  | nil => simp
  | cons c r => rw [List.takeWhile_cons, hr c rfl]; simp
theorem pNum_dec {n : Int} (h0 : 0 ≤ n) (h1 : n ≤ 999) {r : List UInt8} (hr : ∀ c, r.head? = some c → isDig c = false) : pNum (dec n ++ r) = some (n, r) := by
  obtain ⟨a, b, c⟩ := dec_facts n h0 h1
  unfold pNum
  rw [digs_app a hr, if_pos b, c]
  simp
theorem digv {c : UInt8} (h : isDig c = true) : c = dg (c.toNat - 48) ∧ c.toNat - 48 < 10 := by
  unfold isDig at h
  simp only [Bool.and_eq_true, decide_eq_true_eq] at h
  obtain ⟨h1, h2⟩ := h
  refine ⟨?_, by omega⟩
  unfold dg
  apply UInt8.toNat_inj.1
  rw [UInt8.toNat_ofNat']
  omega
/-- a number that is read is written so -/
theorem dec_val {ds : List UInt8} (hd : ∀ c, c ∈ ds → isDig c = true) (ho : OkNum ds) : dec (val ds) = ds ∧ val ds ≤ 999 := by
  obtain ⟨h1, h3, hz⟩ := ho
  have nz : ∀ c : UInt8, isDig c = true → c ≠ 48 → 1 ≤ c.toNat - 48 := by
    intro c h hc
    obtain ⟨e, _⟩ := digv h
    refine Decidable.byContradiction fun hn => hc ?_
    rw [e, show c.toNat - 48 = 0 by omega]; rfl
  match ds, h1, h3 with
  | [a], _, _ =>
    obtain ⟨e, l⟩ := digv (hd a (by simp))
    simp only [val, List.foldl_cons, List.foldl_nil, Nat.mul_zero, Nat.zero_add]
    unfold dec
    rw [Int.toNat_natCast]
    refine ⟨?_, by omega⟩
    rw [if_pos l, ← e]
  | [a, b], _, _ =>
    obtain ⟨e, l⟩ := digv (hd a (by simp))
    obtain ⟨e', l'⟩ := digv (hd b (by simp))
    have := nz a (hd a (by simp)) (by have := hz (by simp); simpa using this)
    simp only [val, List.foldl_cons, List.foldl_nil, Nat.mul_zero, Nat.zero_add]
    unfold dec
    dsimp only
    rw [Int.toNat_natCast]
    refine ⟨?_, by omega⟩
    rw [if_neg (by omega), if_pos (by omega), show (10 * (a.toNat - 48) + (b.toNat - 48)) / 10 = a.toNat - 48 by omega, show (10 * (a.toNat - 48) + (b.toNat - 48)) % 10 = b.toNat - 48 by omega, ← e, ← e']
  | [a, b, c], _, _ =>
    obtain ⟨e, l⟩ := digv (hd a (by simp))
    obtain ⟨e', l'⟩ := digv (hd b (by simp))
    obtain ⟨e'', l''⟩ := digv (hd c (by simp))
    have := nz a (hd a (by simp)) (by have := hz (by simp); simpa using this)
    simp only [val, List.foldl_cons, List.foldl_nil, Nat.mul_zero, Nat.zero_add]
    unfold dec
    dsimp only
    rw [Int.toNat_natCast]
    refine ⟨?_, by omega⟩
    rw [if_neg (by omega), if_neg (by omega), show (10 * (10 * (a.toNat - 48) + (b.toNat - 48)) + (c.toNat - 48)) / 100 = a.toNat - 48 by omega, show (10 * (10 * (a.toNat - 48) + (b.toNat - 48)) + (c.toNat - 48)) / 10 % 10 = b.toNat - 48 by omega,
      show (10 * (10 * (a.toNat - 48) + (b.toNat - 48)) + (c.toNat - 48)) % 10 = c.toNat - 48 by omega, ← e, ← e', ← e'']
theorem digs_all (s : List UInt8) : ∀ c, c ∈ digs s → isDig c = true := fun c h => by
  unfold digs at h
  have := List.all_takeWhile (p := isDig) (l := s)
  exact List.all_eq_true.1 this c h
theorem digs_drop (s : List UInt8) : s = digs s ++ s.drop (digs s).length := by
  unfold digs
  induction s with
  | nil => rfl
  | cons c s ih =>
    rw [List.takeWhile_cons]
    split
    · rw [List.cons_append, List.length_cons, List.drop_succ_cons, ← ih]
    · rfl
theorem pNum_some {s r : List UInt8} {n : Int} (h : pNum s = some (n, r)) : s = dec n ++ r ∧ 0 ≤ n ∧ n ≤ 999 := by
  unfold pNum at h
  split at h
  · rename_i ho
    obtain ⟨e1, e2⟩ := dec_val (digs_all s) ho
    simp only [Option.some.injEq, Prod.mk.injEq] at h
    obtain ⟨rfl, rfl⟩ := h
    refine ⟨?_, by omega, by omega⟩
    rw [e1]; exact digs_drop s
  · cases h
theorem pNums_some : ∀ {k : Nat} {s r : List UInt8} {ns : List Int}, pNums k s = some (ns, r) → s = txtN ns ++ r ∧ ns.length = k ∧ ∀ n, n ∈ ns → 0 ≤ n ∧ n ≤ 999
  | 0, s, r, ns, h => by
    rw [pNums] at h
    cases h
    exact ⟨rfl, rfl, fun n hn => by cases hn⟩
  | k + 1, s, r, ns, h => by
    rw [pNums] at h
    split at h
    · cases h
    · rename_i s1 h1
      split at h
      · cases h
      · rename_i n s2 h2
        split at h
        · cases h
        · rename_i ns' s3 h3
          cases h
          obtain ⟨e1, e2, e3⟩ := pNums_some h3
          obtain ⟨f1, f2, f3⟩ := pNum_some h2
          refine ⟨?_, by simp [e2], fun m hm => ?_⟩
          · rw [strip_some h1, f1, e1]
            unfold txtN
            simp
          · rcases List.mem_cons.1 hm with rfl | hm
            · exact ⟨f2, f3⟩
            · exact e3 m hm
theorem txtN_head {ns : List Int} {r : List UInt8} (hr : ∀ c, r.head? = some c → isDig c = false) : ∀ c, (txtN ns ++ r).head? = some c → isDig c = false := by
  cases ns with
  | nil => simpa [txtN] using hr
  | cons n ns =>
    intro c h
    have : c = 32 := by simpa [txtN] using h.symm
    subst this; decide
theorem pNums_txt : ∀ {ns : List Int} {r : List UInt8}, (∀ n, n ∈ ns → 0 ≤ n ∧ n ≤ 999) → (∀ c, r.head? = some c → isDig c = false) → pNums ns.length (txtN ns ++ r) = some (ns, r)
  | [], r, _, _ => by simp [txtN, pNums]
  | n :: ns, r, h, hr => by
    have e : txtN (n :: ns) ++ r = [32] ++ (dec n ++ (txtN ns ++ r)) := by simp [txtN]
    rw [e, List.length_cons, pNums, strip_app]
    dsimp only
    have hn := h n (List.mem_cons_self ..)
    rw [pNum_dec hn.1 hn.2 (txtN_head hr)]
    dsimp only
    rw [pNums_txt (fun m hm => h m (List.mem_cons_of_mem _ hm)) hr]

theorem pOp_range (s : List UInt8) : 1 ≤ pOp s ∧ pOp s ≤ 6 := by
  unfold pOp; repeat' split
  all_goals omega
theorem pOp_word {s : List UInt8} (h : pOp s ≠ 1) : s = wd (pOp s) ++ [32] ++ s.drop ((wd (pOp s)).length + 1) := by
  have key : ∀ p : List UInt8, p <+: s → s = p ++ s.drop p.length := fun p ⟨t, ht⟩ => by rw [← ht]; simp
  unfold pOp at h ⊢
  split
  · rename_i hp; have := key _ hp; simpa using this
  · split
    · rename_i hp; have := key _ hp; simpa using this
    · split
      · rename_i hp; have := key _ hp; simpa using this
      · split
        · rename_i hp; have := key _ hp; simpa using this
        · split
          · rename_i hp; have := key _ hp; simpa using this
          · rename_i h1 h2 h3 h4 h5
            rw [if_neg h1, if_neg h2, if_neg h3, if_neg h4, if_neg h5] at h
            exact absurd rfl h
theorem pOp_of {op : Int} (h : 2 ≤ op ∧ op ≤ 6) (r : List UInt8) : pOp (wd op ++ [32] ++ r) = op := by
  have : op = 2 ∨ op = 3 ∨ op = 4 ∨ op = 5 ∨ op = 6 := by omega
  rcases this with rfl | rfl | rfl | rfl | rfl <;> simp [pOp, wd]
theorem pOp_col (c : UInt8) (r : List UInt8) : pOp (c :: 32 :: r) = 1 := by
  simp [pOp, wd]
theorem pAx_some {c : UInt8} {k : Int} (h : pAx c = some k) : (0 ≤ k ∧ k ≤ 2) ∧ c = UInt8.ofNat (120 + k.toNat) := by
  unfold pAx at h
  split at h
  · rename_i e; cases h; exact ⟨by omega, e⟩
  · split at h
    · rename_i e; cases h; exact ⟨by omega, e⟩
    · split at h
      · rename_i e; cases h; exact ⟨by omega, e⟩
      · cases h
theorem pAx_of {k : Int} (h : 0 ≤ k ∧ k ≤ 2) : pAx (UInt8.ofNat (120 + k.toNat)) = some k := by
  have : k = 0 ∨ k = 1 ∨ k = 2 := by omega
  rcases this with rfl | rfl | rfl <;> decide
theorem nums_mk {op ax col : Int} {ns : List Int} (h : ns.length = nNum op) : nums (mk op ax col ns) = ns := by
  unfold nums mk
  dsimp only
  unfold nNum at h ⊢
  by_cases h1 : op = 1
  · rw [if_pos h1] at h
    match ns, h with
    | [a, b, c], _ => simp [h1]
  · rw [if_neg h1] at h
    by_cases h4 : op = 4
    · rw [if_pos h4] at h
      match ns, h with
      | [a, b], _ => simp [h4]
    · rw [if_neg h4] at h
      by_cases h6 : op = 6
      · rw [if_pos h6] at h
        match ns, h with
        | [a], _ => simp [h6]
      · rw [if_neg h6] at h
        match ns, h with
        | [], _ => simp [h1, h4, h6]

/-- what is read is the text of what it gives -/
theorem pParts_txt {p : List UInt8 → Option (Tree × List UInt8)} (hp : ∀ s t r, p s = some (t, r) → s = txt t ++ r) : ∀ k m s ts r, pParts p k m s = some (ts, r) → s = txtL m ts ++ r ∧ ts.length = k := by
  intro k
  induction k with
  | zero => intro m s ts r h; rw [pParts] at h; cases h; exact ⟨rfl, rfl⟩
  | succ k ihk =>
    intro m s ts r h
    rw [pParts] at h
    split at h
    · cases h
    · rename_i s1 h1
      split at h
      · cases h
      · rename_i t s2 h2
        split at h
        · cases h
        · rename_i ts' s3 h3
          cases h
          obtain ⟨e1, e2⟩ := ihk _ _ _ _ h3
          refine ⟨?_, by simp [e2]⟩
          rw [strip_some h1, hp _ _ _ h2, e1, txtL]
          simp
theorem pSolid_txt {s r : List UInt8} {t : Tree} (h : pSolid s = some (t, r)) : s = txt t ++ r := by
  unfold pSolid at h
  split at h
  · cases h
  · rename_i c r0
    split at h
    · rename_i hc
      split at h
      · cases h
      · rename_i ns r1 hn
        cases h
        obtain ⟨e1, e2, e3⟩ := pNums_some hn
        rw [txt, if_pos (by rfl), nums_mk (by rw [e2]; rfl), e1]
        have : UInt8.ofNat ((c.toNat : Int).toNat) = c := by rw [Int.toNat_natCast]; simp
        show c :: _ = UInt8.ofNat ((c.toNat : Int).toNat) :: _ ++ _
        rw [this]; rfl
    · cases h
theorem pRec_txt : ∀ f : Nat, ∀ s t r, pRec f s = some (t, r) → s = txt t ++ r := by
  intro f
  induction f with
  | zero => intro s t r h; rw [pRec] at h; cases h
  | succ f ih =>
    intro s t r h
    rw [pRec] at h
    split at h
    · exact pSolid_txt h
    · rename_i hop
      have hw := pOp_word hop
      generalize hd : s.drop ((wd (pOp s)).length + 1) = d at h hw
      unfold pWork at h
      split at h
      · cases h
      · rename_i c r0
        split at h
        · cases h
        · rename_i ax hax
          obtain ⟨_, hc⟩ := pAx_some hax
          split at h
          · cases h
          · rename_i ns r1 hn
            obtain ⟨e1, e2, e3⟩ := pNums_some hn
            split at h
            · cases h
            · rename_i ps r2 hp
              obtain ⟨g1, g2⟩ := pParts_txt ih _ _ _ _ _ hp
              split at h
              · cases h
              · rename_i r3 h3
                cases h
                have k1 := strip_some h3
                rw [txt, if_neg (by exact hop), nums_mk e2]
                show s = wd (pOp s) ++ [32, UInt8.ofNat (120 + ax.toNat)] ++ txtN ns ++ txtL [32, 40] ps ++ [41] ++ r
                conv => lhs; rw [hw, hc, e1, g1, k1]
                simp

mutual
def sz : Tree → Nat
  | .node _ ps => szL ps + 1
def szL : List Tree → Nat
  | [] => 0
  | t :: ts => sz t + szL ts
end
/-- the text of a sound recipe is read again -/
theorem txt_pRec : ∀ t : Tree, Sound t → ∀ (f : Nat) (r : List UInt8), depth t ≤ f → (∀ c, r.head? = some c → isDig c = false) → pRec f (txt t ++ r) = some (t, r) := by
  apply Tree.ind
  intro h ps ih hs f r hf hr
  rw [Sound, soundL_iff] at hs
  obtain ⟨hfm, hs⟩ := hs
  rw [depth] at hf
  obtain ⟨f, rfl⟩ : ∃ g, f = g + 1 := ⟨f - 1, by omega⟩
  have hd : ∀ p, p ∈ ps → depth p ≤ f := depthL_le.1 (by omega)
  have hparts : ∀ (l : List Tree) (m : List UInt8) (r : List UInt8), (∀ p, p ∈ l → p ∈ ps) → (∀ c, r.head? = some c → isDig c = false) → pParts (pRec f) l.length m (txtL m l ++ r) = some (l, r) := by
    intro l
    induction l with
    | nil => intro m r _ _; rw [List.length_nil, pParts]; rfl
    | cons t l ihl =>
      intro m r hm hr
      have hcomma : ∀ c, (txtL [44, 32] l ++ r).head? = some c → isDig c = false := by
        cases l with
        | nil => simpa [txtL] using hr
        | cons u l =>
          intro c hc
          have : c = 44 := by rw [txtL] at hc; simpa using hc.symm
          subst this; decide
      rw [List.length_cons, pParts, txtL, List.append_assoc, List.append_assoc, strip_app]
      dsimp only
      rw [ih t (hm t (List.mem_cons_self ..)) (hs t (hm t (List.mem_cons_self ..))) f _ (hd t (hm t (List.mem_cons_self ..))) hcomma]
      dsimp only
      rw [ihl _ _ (fun p hp => hm p (List.mem_cons_of_mem _ hp)) hr]
  have hclose : ∀ c, ([41] ++ r).head? = some c → isDig c = false := by
    intro c hc
    have : c = 41 := by simpa using hc.symm
    subst this; decide
  rw [pRec, txt]
  rcases hfm with ⟨e1, hl, hax, hcol, c1, c2, c3⟩ | ⟨hax, hcol, hn2, hr'⟩
  · have hps : ps = [] := List.eq_nil_of_length_eq_zero hl
    subst hps
    have hc : isCol (UInt8.ofNat h.col.toNat) = true := by
      unfold isCol
      have : (UInt8.ofNat h.col.toNat).toNat = h.col.toNat := by rw [UInt8.toNat_ofNat']; omega
      rw [this]; simp; omega
    have hnum : nums h = [h.n0, h.n1, h.n2] := by unfold nums nNum; rw [if_pos e1]; rfl
    rw [if_pos e1, hnum, List.cons_append]
    have e0 : txtN [h.n0, h.n1, h.n2] ++ r = 32 :: (dec h.n0 ++ txtN [h.n1, h.n2] ++ r) := by simp [txtN]
    have hop : pOp (UInt8.ofNat h.col.toNat :: (txtN [h.n0, h.n1, h.n2] ++ r)) = 1 := by rw [e0]; exact pOp_col _ _
    rw [if_pos hop, pSolid, if_pos hc, show (3 : Nat) = [h.n0, h.n1, h.n2].length from rfl, pNums_txt (by simp; omega) hr]
    dsimp only
    have : mk 1 0 (UInt8.ofNat h.col.toNat).toNat [h.n0, h.n1, h.n2] = h := by
      have hcv : (UInt8.ofNat h.col.toNat).toNat = h.col.toNat := by rw [UInt8.toNat_ofNat']; omega
      unfold mk
      rw [hcv]
      have e5 : ((h.col.toNat : Nat) : Int) = h.col := by omega
      rw [e5]
      obtain ⟨op, ax, col, n0, n1, n2⟩ := h
      simp only at e1 hax ⊢
      subst e1 hax
      simp
    rw [this]
  · have hop2 : 2 ≤ h.op ∧ h.op ≤ 6 := by omega
    have hne : h.op ≠ 1 := by omega
    rw [if_neg hne]
    have hop : pOp (wd h.op ++ [32, UInt8.ofNat (120 + h.ax.toNat)] ++ txtN (nums h) ++ txtL [32, 40] ps ++ [41] ++ r) = h.op := by
      have e : wd h.op ++ [32, UInt8.ofNat (120 + h.ax.toNat)] ++ txtN (nums h) ++ txtL [32, 40] ps ++ [41] ++ r = wd h.op ++ [32] ++ (UInt8.ofNat (120 + h.ax.toNat) :: (txtN (nums h) ++ txtL [32, 40] ps ++ [41] ++ r)) := by simp
      rw [e]; exact pOp_of hop2 _
    rw [hop, if_neg hne]
    have hdrop : (wd h.op ++ [32, UInt8.ofNat (120 + h.ax.toNat)] ++ txtN (nums h) ++ txtL [32, 40] ps ++ [41] ++ r).drop ((wd h.op).length + 1) = UInt8.ofNat (120 + h.ax.toNat) :: (txtN (nums h) ++ (txtL [32, 40] ps ++ ([41] ++ r))) := by
      have e : wd h.op ++ [32, UInt8.ofNat (120 + h.ax.toNat)] ++ txtN (nums h) ++ txtL [32, 40] ps ++ [41] ++ r = (wd h.op ++ [32]) ++ (UInt8.ofNat (120 + h.ax.toNat) :: (txtN (nums h) ++ (txtL [32, 40] ps ++ ([41] ++ r)))) := by simp
      rw [e, show (wd h.op).length + 1 = (wd h.op ++ [32]).length by simp, List.drop_left]
    rw [hdrop, pWork, pAx_of hax]
    dsimp only
    have hpl : ∀ c, (txtL [32, 40] ps ++ ([41] ++ r)).head? = some c → isDig c = false := by
      cases ps with
      | nil => simpa [txtL] using hclose
      | cons u l =>
        intro c hc
        have : c = 32 := by rw [txtL] at hc; simpa using hc.symm
        subst this; decide
    have hnl : nNum h.op = (nums h).length ∧ ∀ n, n ∈ nums h → 0 ≤ n ∧ n ≤ 999 := by
      unfold nums nNum
      rcases hr' with ⟨e, _⟩ | ⟨e, _⟩ | ⟨e, _, hn, hn'⟩ | ⟨e, _⟩ | ⟨e, _, hn, _⟩ <;> simp [e] <;> omega
    rw [hnl.1, pNums_txt hnl.2 hpl]
    dsimp only
    have hnp : nPart h.op = ps.length := by
      unfold nPart
      rcases hr' with ⟨e, hl, _⟩ | ⟨e, hl, _⟩ | ⟨e, hl, _⟩ | ⟨e, hl, _⟩ | ⟨e, hl, _⟩ <;> simp [e, hl]
    rw [hnp, hparts ps [32, 40] ([41] ++ r) (fun _ h => h) hclose]
    dsimp only
    rw [strip_app]
    dsimp only
    have : mk h.op h.ax 0 (nums h) = h := by
      obtain ⟨op, ax, col, n0, n1, n2⟩ := h
      unfold mk nums nNum
      simp only at *
      rcases hr' with ⟨e, _, z0, z1⟩ | ⟨e, _, z0, z1⟩ | ⟨e, _⟩ | ⟨e, _, z0, z1⟩ | ⟨e, _, _, z1⟩ <;> simp [*]
    rw [this]
end Go.Proofs.YticjhkfidgkecaaGreatDoor.Pl
