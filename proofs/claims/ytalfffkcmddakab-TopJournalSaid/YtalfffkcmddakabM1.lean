/- The map of entries by their names: look up, store, delete, range. -/
import Derived.Test.YtalfffkcmddakabF2
import Derived.WideKeyPair
import Derived.DeepKeys4
import Derived.Maps.RangeWalk
namespace Go.Proofs.Ytalfffkcmddakab
open Go.RowKit Go.Shelf

theorem laidOutK : laidOutB Try.prog = true := by kernel_rfl
theorem szT : ∃ m, Try.prog.types.size = m + 1 := ⟨Try.prog.types.size - 1, by have h : 0 < Try.prog.types.size := of_decide_eq_true (by kernel_rfl); omega⟩
theorem cellsNm' : Try.prog.cellsOf 101 = 2 := by kernel_rfl
theorem cellsInt' : Try.prog.cellsOf 3 = 1 := by kernel_rfl
theorem rowNm : (101 : TypeId) < Try.prog.types.size := of_decide_eq_true (by kernel_rfl)
theorem deepNm : Try.prog.keyTypeAt 2 101 = true := by kernel_rfl
theorem lawNm : Go.WideMaps.KeyLaw Try.prog 101 := deep_law_laid laidOutK (m := 2) (by omega) rowNm deepNm (by rw [Try.underlying101])
theorem keyTypeNm : Try.prog.keyType 101 = true := by kernel_rfl
theorem keyedNm : Go.Maps.Keyed Try.prog 101 := Go.Maps.Keyed.of_law lawNm
/-- how a value is read: as itself -/
def itself (v : Value) : Option (DataW Value × List MemPlace) := some (.held v, [])
/-- a name as a key -/
abbrev nmK (n : Pl.Nm) : Lit := .string (keyBytes [.int .i64 n.1, .int .i64 n.2])
structure OkN (n : Pl.Nm) : Prop where
  a : (Lit.int .i64 n.1).wf = true
  b : (Lit.int .i64 n.2).wf = true
theorem okN_ve {e : Pl.En} (h : Pl.vE e = true) : OkN (Pl.nm e) := by
  have h' := Pl.ve_iff.1 h
  have := h'.k1; have := h'.k4; have := h'.r1; have := h'.r9
  exact ⟨WalkArith.wf_i64 (by show _ ∧ _; simp only [Pl.nm]; omega), WalkArith.wf_i64 (by show _ ∧ _; simp only [Pl.nm]; omega)⟩
set_option maxRecDepth 100000 in
theorem nmKey {n : Pl.Nm} (h : OkN n) : keyOf Try.prog 101 (.agg (nmA n)) = some (nmK n) := by
  obtain ⟨m, hm⟩ := szT
  have ha := h.a
  have hb := h.b
  unfold keyOf
  simp only [Try.underlying101]
  rw [if_pos (by simp [keyTypeNm, Value.formed, Try.underlying101, cellsNm']), hm]
  unfold Program.keyLits
  simp only [Try.underlying101, Value.cells]
  rw [if_pos (by rw [cellsNm']; exact ⟨rfl, by simp⟩)]
  simp [cellsInt', Program.keyLits, Try.underlying3, ha, hb]
theorem nmK_inj {a b : Pl.Nm} (ha : OkN a) (hb : OkN b) (h : nmK a = nmK b) : a = b := by
  have hk := nmKey ha
  rw [h] at hk
  have := keyedNm.inj hk (nmKey hb)
  simp at this
  exact Prod.ext this.1 this.2
theorem nmK_is {n : Pl.Nm} (h : OkN n) : WideAt.IsKeyLit (nmK n) := keyedNm.key (nmKey h)
theorem sameKey_nm (a : Lit) (n : Pl.Nm) (h : a.sameKey (nmK n) = true) : a = nmK n := by
  by_cases e : a = nmK n
  · exact e
  · rw [Go.Maps.sameKey_ne e] at h; cases h
/-- what a map of these entries reads as -/
structure MD (D : DataW Value) (S : List Pl.En) : Prop where
  size : Go.Maps.size D = S.length
  dif : (S.map Pl.nm).Nodup
  ok : ∀ e, e ∈ S → OkN (Pl.nm e)
  has : ∀ m, OkN m → Go.Maps.has D (nmK m) = (Pl.fnd S m).isSome
  at' : ∀ m, OkN m → D.atKey (nmK m) (.held (.agg (enA Pl.z0))) = .held (.agg (enA ((Pl.fnd S m).getD Pl.z0)))
  inv : ∀ kl, Go.Maps.has D kl = true → ∃ e ∈ S, kl = nmK (Pl.nm e)
/-- block b is the map of these entries, of at most n -/
def MapE (W : World) (b n : Nat) (S : List Pl.En) : Prop := ∃ D : DataW Value, W.ownsMap Try.prog 101 itself b n D ∧ MD D S
section
variable {W W' : World} {b n : Nat} {S : List Pl.En}
theorem MapE.lt (h : MapE W b n S) : b < W.heap.size := by
  obtain ⟨D, h1, _⟩ := h
  exact h1.lt
theorem MapE.grown {row : Option Nat} (h : MapE W b n S) (hg : W.grownBy W' row) (hne : some b ≠ row) : MapE W' b n S := by
  obtain ⟨D, h1, h2⟩ := h
  exact ⟨D, h1.kept hg hne, h2⟩
theorem MapE.below (h : MapE W b n S) (hb : Below W.heap.size W W') : MapE W' b n S := h.grown (grown_none hb) (by simp)
theorem MapE.made (W : World) : MapE (W.alloc (.map #[] 0)) W.heap.size 0 [] :=
  ⟨_, World.ownsMap_made W _ _ _, ⟨rfl, List.nodup_nil, (fun e he => by cases he), fun _ _ => rfl, fun _ _ => rfl, (fun kl h => by cases h)⟩⟩
theorem MapE.len (h : MapE W b n S) (ty : TypeId) : (Builtin.len_ #[97] ty #[.map (some b)]).run Try.prog W = .ok (.int .i64 (S.length : Nat)) W := by
  obtain ⟨D, h1, h2⟩ := h
  rw [← h2.size]
  exact h1.len Try.underlying97 ty
theorem zeroEn (w : World) : (zeroValue 72).run Try.prog w = .ok (.agg (enA Pl.z0)) w := by kernel_rfl
theorem MapE.look (h : MapE W b n S) {m : Pl.Nm} (hm : OkN m) :
    (Instr.lookup 97 (.map (some b)) (.agg (nmA m)) false).run Try.prog W = .ok (.agg (enA ((Pl.fnd S m).getD Pl.z0))) W := by
  obtain ⟨D, h1, h2⟩ := h
  obtain ⟨v, ps, hrun, hv⟩ := h1.lookup keyedNm Try.underlying97 (z := .agg (enA Pl.z0)) (zeroEn W) (zd := .held (.agg (enA Pl.z0))) (zp := []) rfl (nmKey hm)
  rw [h2.at' m hm] at hv
  cases hv
  exact hrun
theorem ups_size {e : Pl.En} (hd : (S.map Pl.nm).Nodup) : (Pl.ups S e).length = if (Pl.fnd S (Pl.nm e)).isSome then S.length else S.length + 1 := by
  cases hf : Pl.fnd S (Pl.nm e) with
  | none => simp [Pl.ups_new hf]
  | some y =>
    simp
    refine Nat.le_antisymm (Pl.ups_len (by rw [hf]; simp)) ?_
    have key : (S.map Pl.nm).length ≤ ((Pl.ups S e).map Pl.nm).length := by
      refine List.Nodup.length_le_of_subset hd fun m hm => ?_
      obtain ⟨x, hx, rfl⟩ := List.mem_map.1 hm
      by_cases e1 : Pl.nm x = Pl.nm e
      · rw [e1]; exact List.mem_map.2 ⟨e, by unfold Pl.ups; simp, rfl⟩
      · exact List.mem_map.2 ⟨x, by unfold Pl.ups; exact List.mem_append_left _ (List.mem_filter.2 ⟨hx, by simpa using e1⟩), rfl⟩
    rwa [List.length_map, List.length_map] at key
theorem MD.put {D : DataW Value} (h : MD D S) (ht : Go.Maps.Tidy D) {e : Pl.En} (he : OkN (Pl.nm e)) : MD (D.put (nmK (Pl.nm e)) (.held (.agg (enA e)))) (Pl.ups S e) where
  size := by rw [Go.Maps.size_put ht, h.has _ he, h.size, ups_size h.dif]
  dif := Pl.ups_nodup h.dif e
  ok x hx := by
    unfold Pl.ups at hx
    rcases List.mem_append.1 hx with hx | hx
    · exact h.ok x (List.mem_filter.1 hx).1
    · simp at hx; subst hx; exact he
  has m hm := by
    rw [Pl.fnd_ups]
    by_cases e1 : Pl.nm e = m
    · subst e1
      rw [Go.Maps.has_put_same ht.isMap (nmK_is he)]; simp
    · rw [Go.Maps.has_put_other (fun h' => e1 (nmK_inj hm he h').symm), h.has m hm, if_neg e1]
  at' m hm := by
    rw [Pl.fnd_ups]
    by_cases e1 : Pl.nm e = m
    · subst e1
      rw [Go.Maps.atKey_put_same ht.isMap (nmK_is he)]; simp
    · rw [Go.Maps.atKey_put_other (fun h' => e1 (nmK_inj hm he h').symm), h.at' m hm, if_neg e1]
  inv kl hk := by
    by_cases e1 : kl = nmK (Pl.nm e)
    · exact ⟨e, by unfold Pl.ups; simp, e1⟩
    · rw [Go.Maps.has_put_other e1] at hk
      obtain ⟨x, hx, rfl⟩ := h.inv kl hk
      refine ⟨x, ?_, rfl⟩
      unfold Pl.ups
      exact List.mem_append_left _ (List.mem_filter.2 ⟨hx, by simpa using fun h' => e1 (by rw [h'])⟩)
theorem MapE.store (h : MapE W b n S) (hn : n < maxLen) {e : Pl.En} (he : OkN (Pl.nm e)) :
    ∃ W', (Instr.mapUpdate 97 (.map (some b)) (.agg (nmA (Pl.nm e))) (.agg (enA e))).run Try.prog W = .ok () W' ∧ MapE W' b (n + 1) (Pl.ups S e) ∧ W.grownBy W' (some b) := by
  obtain ⟨D, h1, h2⟩ := h
  obtain ⟨W', hrun, h3, h4⟩ := h1.update keyedNm Try.underlying97 hn (nmKey he) (val := .agg (enA e)) (d := .held (.agg (enA e))) (ps := []) rfl
  exact ⟨W', hrun, ⟨_, h3, h2.put (h1.tidy keyedNm) he⟩, h4⟩
/-- a loop over the map: what has come, what is still to come -/
structure RG (D : DataW Value) (S : List Pl.En) (left : Lit → Bool) (acc : List Pl.En) : Prop where
  md : MD D S
  sub : ∀ e, e ∈ acc → e ∈ S
  nod : acc.Nodup
  is : ∀ e, e ∈ S → left (nmK (Pl.nm e)) = decide (e ∉ acc)
  le : ∀ kl, left kl = true → Go.Maps.has D kl = true
theorem RG.start {D : DataW Value} (h : MD D S) : RG D S (Go.Maps.has D) [] where
  md := h
  sub e he := by cases he
  nod := List.nodup_nil
  is e he := by rw [h.has _ (h.ok e he), Pl.fnd_self h.dif he]; simp
  le kl h := h
theorem RG.next {D : DataW Value} {left : Lit → Bool} {acc : List Pl.En} (h : RG D S left acc) {kl : Lit} {v : Value} (hl : left kl = true) (hat : ∀ zd, D.atKey kl zd = .held v) :
    ∃ e, e ∈ S ∧ e ∉ acc ∧ v = .agg (enA e) ∧ RG D S (fun z => left z && !z.sameKey kl) (acc ++ [e]) := by
  obtain ⟨e, he, rfl⟩ := h.md.inv kl (h.le kl hl)
  have hn : e ∉ acc := by
    have := h.is e he
    rw [hl] at this
    simpa using this.symm
  have hv : v = .agg (enA e) := by
    have h1 := hat (.held (.agg (enA Pl.z0)))
    rw [h.md.at' _ (h.md.ok e he), Pl.fnd_self h.md.dif he] at h1
    cases h1
    rfl
  refine ⟨e, he, hn, hv, h.md, fun x hx => ?_, ?_, fun x hx => ?_, fun z hz => ?_⟩
  · rcases List.mem_append.1 hx with hx | hx
    · exact h.sub x hx
    · simp at hx; subst hx; exact he
  · rw [List.nodup_append]
    exact ⟨h.nod, by simp, fun a ha b hb e' => by simp at hb; subst hb; subst e'; exact hn ha⟩
  · show (left (nmK (Pl.nm x)) && !(nmK (Pl.nm x)).sameKey (nmK (Pl.nm e))) = _
    rw [h.is x hx]
    by_cases e1 : x = e
    · subst e1
      rw [show (nmK (Pl.nm x)).sameKey (nmK (Pl.nm x)) = true from by simp [Lit.sameKey]]
      simp
    · have : nmK (Pl.nm x) ≠ nmK (Pl.nm e) := fun h' => e1 (by
        have h2 := nmK_inj (h.md.ok x hx) (h.md.ok e he) h'
        have h3 := Pl.fnd_self h.md.dif hx
        rw [h2, Pl.fnd_self h.md.dif he] at h3
        cases h3
        rfl)
      rw [Go.Maps.sameKey_ne this]
      simp [e1]
  · exact h.le z (by simp only [Bool.and_eq_true] at hz; exact hz.1)
theorem RG.done {D : DataW Value} {left : Lit → Bool} {acc : List Pl.En} (h : RG D S left acc) (h0 : ∀ kl, left kl = false) : acc.Perm S := by
  have hS : S.Nodup := by
    have := h.md.dif
    rw [List.Nodup, List.pairwise_map] at this
    exact this.imp fun {a b} hab e => hab (by rw [e])
  refine (List.perm_ext_iff_of_nodup h.nod hS).2 fun e => ⟨h.sub e, fun he => ?_⟩
  have := h.is e he
  rw [h0] at this
  simpa using this.symm
end
end Go.Proofs.Ytalfffkcmddakab
