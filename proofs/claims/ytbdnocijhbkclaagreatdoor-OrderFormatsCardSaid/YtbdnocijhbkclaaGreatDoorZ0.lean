/- What the walks of texts need of the listed variables; regions one operation after another. -/
import Derived.Test.YtbdnocijhbkclaaGreatDoorShelf1
import Derived.Test.YtbdnocijhbkclaaGreatDoorW7
import Derived.Test.YtbdnocijhbkclaaGreatDoorPA
import Derived.Test.YtbdnocijhbkclaaGreatDoorY5
import Derived.Lib.LaidU8
import Derived.Lib.SmallJoins
namespace Go.Proofs.YtbdnocijhbkclaaGreatDoor
open Go.RowKit Go.Shelf Go.Sort Go.Lib

theorem wpOp_goE {P : Program} {ops : Array Oper} {Q : Exit → Act → World → Prop} {i : Nat} {o : Oper} {K : Act → World → Prop} {a : Act} {w : World} (ho : ops[i]? = some o) (hw : Region.wanted o (yielded ops a.tmps) = true)
    (h : ∀ K' : Act → World → Prop, (∀ a w, K a w → K' a w) → Oper.wp P o a w K' Q) : wpOp P ops Q i K a w :=
  wpOp_step ho fun K' hK => by rw [if_pos hw]; exact h K' hK
/-- number i first, its slot by its number -/
theorem takeD {P : Program} {md : Region.Mode} {ops : Array Oper} {Q : Exit → Act → World → Prop} {S : World → Prop} {i : Nat} {oi : Oper} {d : Option Tmp} {v : Value} {fuel : Nat} {listed : Array Bool} {a : Act} {w : World} (hi : ops[i]? = some oi) (hd : oi.dst = d)
    (hs : Region.noSelect ops = true) (hf : Region.free md ops listed i = true) (hr : (Region.ready md ops listed).contains i = true)
    (hQ : ∀ c a w, Q (.panic c) (a.put d v) w → Q (.panic c) a w) (hy : YieldsIf P ops S oi v a) (hS : S w)
    (h : wpAnyH P md ops Q S fuel (listed.setIfInBounds i true) (a.put d v) w) : wpAnyH P md ops Q S (fuel + 1) listed a w := by
  subst hd
  exact wpAnyH_take hi hs hf hr hQ hy hS h
/-- the slots, brought to one form -/
theorem actNorm {P : Program} {md : Region.Mode} {ops : Array Oper} {Q : Exit → Act → World → Prop} {S : World → Prop} {fuel : Nat} {listed : Array Bool} {a : Act} {w : World} (h : ∀ a', a = a' → wpAnyH P md ops Q S fuel listed a' w) : wpAnyH P md ops Q S fuel listed a w := h a rfl

theorem g_pow : Tryz.prog.globalNamed "internal/strconv.uint64pow10" = some 2 := by kernel_rfl
theorem g_syn : Tryz.prog.globalNamed "strconv.ErrSyntax" = some 4 := by kernel_rfl
theorem g_rng : Tryz.prog.globalNamed "strconv.ErrRange" = some 5 := by kernel_rfl
theorem g_asc : Tryz.prog.globalNamed "strings.asciiSpace" = some 0 := by kernel_rfl
theorem var_bl {w w' : World} {g : Nat} {name : String} {cs : Array Value} (hg : Tryz.prog.globalNamed name = some g) (h : w.var? Tryz.prog name = some cs) (hb : Below w.heap.size w w') : w'.var? Tryz.prog name = some cs := by
  unfold World.var? at h ⊢
  rw [hg] at h ⊢
  simp only [Option.bind_some] at h ⊢
  have hl : g < w.heap.size := by
    rcases Nat.lt_or_ge g w.heap.size with k | k
    · exact k
    · rw [Array.getElem?_eq_none k] at h; cases h
  rw [hb.block g hl]
  exact h
/-- what of the program's own is read -/
structure Env (w : World) : Prop where
  tab : Lib.TabIs Tryz.prog w "internal/strconv.uint64pow10" .u64 Lib.pow10Tab
  syn : ∃ t p, w.var? Tryz.prog "strconv.ErrSyntax" = some #[.iface t p]
  rng : ∃ t p, w.var? Tryz.prog "strconv.ErrRange" = some #[.iface t p]
  asc : Lib.TabIs Tryz.prog w "strings.asciiSpace" .u8 Lib.asciiSpaceTab
  wht : Lib.WhiteTab 1 w
theorem Env.below {w w' : World} (h : Env w) (hb : Below w.heap.size w w') : Env w' := by
  obtain ⟨t, p, hs⟩ := h.syn
  obtain ⟨t', p', hr'⟩ := h.rng
  exact ⟨var_bl g_pow h.tab hb, ⟨t, p, var_bl g_syn hs hb⟩, ⟨t', p', var_bl g_rng hr' hb⟩, var_bl g_asc h.asc hb, WhiteTab_below h.wht hb⟩
theorem below_grow (w : World) (k : Nat) (os : Array Obj) : Below w.heap.size w (grow (w.drewN k) os) :=
  ⟨rfl, rfl, rfl, by show w.heap.size ≤ (w.heap ++ os).size; simp, fun j hj => by show (w.heap ++ os)[j]? = w.heap[j]?; rw [Array.getElem?_append_left hj]⟩
/-- the digits of a number -/
theorem itoa_any (n : Int) (h0 : 0 ≤ n) (h1 : n ≤ 1000000000) (w : World) (hE : Env w) : Calls Tryz.prog 35 #[.int .i64 n] w fun e w' => e = .returned (.string ⟨(Pl.dgs n.toNat).toArray⟩) ∧ Below w.heap.size w w' := by
  refine (Tryz.strconv_Itoa n (by omega) (by omega) w hE.tab).mono ?_
  rintro e w' ⟨rfl, k, os, rfl⟩
  exact ⟨by rw [Pl.itoa_dgs h0], below_grow _ _ _⟩
set_option maxRecDepth 100000 in
set_option maxHeartbeats 1000000 in
/-- the number of a word, or -1 -/
theorem number_any (s : ByteArray) (hs : s.size ≤ 100000) (w : World) (hE : Env w) : Calls Tryz.prog 42 #[.string s] w fun e w' => e = .returned (.int .i64 (Pl.nuP (Pl.byt s))) ∧ Below w.heap.size w w' := by
  obtain ⟨V, hV⟩ : ∃ V, Pl.nuP (Pl.byt s) = V := ⟨_, rfl⟩
  rw [hV]
  have HV := Lib.hid hV
  clear hV
  cases hat : Lib.atoiAll s.data.toList with
  | ok v =>
    have HC := Lib.hid (Tryz.strconv_Atoi_ok s (by omega) v hat)
    have HR : Hid (V = v) := Lib.hid (by rw [← HV.out]; unfold Pl.nuP Pl.byt; rw [hat])
    clear hat hE
    go_enter Tryz.func42, Tryz.ntmps42
    go_wp2_with fail
    refine (HC.out _).mono ?_
    rintro e w1 ⟨rfl, hw1⟩
    have HB : Hid (Below w.heap.size w w1) := Lib.hid (by
      rcases hw1 with rfl | ⟨t, rfl⟩
      · exact Below.refl _ _
      · exact Joins.below_bytesWorld _ _ _ _ (Nat.le_refl _))
    clear hw1
    go_wp2_with fail
    go_ret
    exact ⟨by rw [HR.out]; rfl, HB.out⟩
  | «syntax» =>
    obtain ⟨t, p, hvar⟩ := hE.syn
    have HC := Lib.hid (Tryz.strconv_Atoi_syntax_var s (by omega) hat t p w hvar)
    have HR : Hid (V = -1) := Lib.hid (by rw [← HV.out]; unfold Pl.nuP Pl.byt; rw [hat])
    clear hat hE hvar
    go_enter Tryz.func42, Tryz.ntmps42
    go_wp2_with fail
    refine HC.out.mono ?_
    rintro e w1 ⟨N, rfl, hN, _, hb⟩
    have HB := Lib.hid hb
    clear hb hN
    go_wp2_with fail
    go_ret
    exact ⟨by rw [HR.out]; rfl, HB.out⟩
  | range =>
    obtain ⟨t, p, hvar⟩ := hE.rng
    have HC := Lib.hid (Tryz.strconv_Atoi_range_var s (by omega) hat t p w hvar)
    have HR : Hid (V = -1) := Lib.hid (by rw [← HV.out]; unfold Pl.nuP Pl.byt; rw [hat])
    clear hat hE hvar
    generalize Lib.atoiSat s.data.toList = z at *
    go_enter Tryz.func42, Tryz.ntmps42
    go_wp2_with fail
    refine HC.out.mono ?_
    rintro e w1 ⟨N, rfl, hN, _, hb⟩
    have HB := Lib.hid hb
    clear hb hN
    go_wp2_with fail
    go_ret
    exact ⟨by rw [HR.out]; rfl, HB.out⟩
end Go.Proofs.YtbdnocijhbkclaaGreatDoor
