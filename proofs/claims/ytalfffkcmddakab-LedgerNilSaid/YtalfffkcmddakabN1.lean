/- Disks and journals that are nil or zero; LedgerNil. -/
import Derived.Test.YtalfffkcmddakabZ8
namespace Go.Proofs.Ytalfffkcmddakab
open Go.RowKit Go.Shelf

/-- no disk: nil, or a zero value -/
def NoDk (w : World) (p : Value) : Prop := p = .pointer none ∨ ∃ b, p = ptr b ∧ Blk w b 39 #[.int .i64 0, .bool false, .slice none 0 0, .slice none 0 0, .int .i64 0, .int .i64 0]
def NoJn (w : World) (p : Value) : Prop := p = .pointer none ∨ ∃ b, p = ptr b ∧ Blk w b 42 #[.pointer none, .int .i64 0, .bool false, .int .i64 0, .slice none 0 0]
section
variable {w : World} {p : Value}
set_option maxHeartbeats 1000000 in
theorem nmade (h : NoDk w p) : Calls Try.prog 42 #[p] w fun e w' => e = .returned (.bool false) ∧ w' = w := by
  rcases h with rfl | ⟨b, rfl, h⟩
  · go_enter Try.func42, Try.ntmps42
    go_wp2
    go_ret
    exact ⟨rfl, rfl⟩
  · have q0 := h.cell 0
    clear h
    go_enter Try.func42, Try.ntmps42
    go_wp2
    go_ret
    exact ⟨rfl, rfl⟩
set_option maxHeartbeats 1000000 in
theorem nopened (h : NoJn w p) : Calls Try.prog 48 #[p] w fun e w' => e = .returned (.bool false) ∧ w' = w := by
  rcases h with rfl | ⟨b, rfl, h⟩
  · go_enter Try.func48, Try.ntmps48
    go_wp2
    go_ret
    exact ⟨rfl, rfl⟩
  · have q0 := h.cell 0
    clear h
    go_enter Try.func48, Try.ntmps48
    go_wp2
    go_ret
    exact ⟨rfl, rfl⟩
set_option maxHeartbeats 1000000 in
theorem ndown (h : NoDk w p) : Calls Try.prog 41 #[p] w fun e w' => e = .returned (.bool true) ∧ w' = w := by
  have HC := Lib.hid (nmade h)
  clear h
  go_enter Try.func41, Try.ntmps41
  go_wp2_with fail
  refine HC.out.mono ?_
  rintro e w1 ⟨rfl, rfl⟩
  go_wp2
  go_ret
  exact ⟨rfl, rfl⟩
set_option maxHeartbeats 1000000 in
theorem ncheck (h : NoDk w p) (i : Int) : Calls Try.prog 51 #[p, .int .i64 i] w fun e w' => e = .returned (.int .i64 91) ∧ w' = w := by
  have HC := Lib.hid (ndown h)
  clear h
  go_enter Try.func51, Try.ntmps51
  go_wp2_with fail
  refine HC.out.mono ?_
  rintro e w1 ⟨rfl, rfl⟩
  go_wp2
  go_ret
  exact ⟨rfl, rfl⟩
set_option maxHeartbeats 1000000 in
theorem narm (h : NoDk w p) (n k : Int) : Calls Try.prog 23 #[p, .int .i64 n, .int .i64 k] w fun e w' => e = .returned (.tuple #[]) ∧ w' = w := by
  have HC := Lib.hid (nmade h)
  clear h
  go_enter Try.func23, Try.ntmps23
  go_wp2_with fail
  refine HC.out.mono ?_
  rintro e w1 ⟨rfl, rfl⟩
  go_wp2
  go_end0
  exact ⟨rfl, rfl⟩
set_option maxHeartbeats 1000000 in
theorem nrestart (h : NoDk w p) : Calls Try.prog 25 #[p] w fun e w' => e = .returned (.tuple #[]) ∧ w' = w := by
  have HC := Lib.hid (nmade h)
  clear h
  go_enter Try.func25, Try.ntmps25
  go_wp2_with fail
  refine HC.out.mono ?_
  rintro e w1 ⟨rfl, rfl⟩
  go_wp2
  (try simp only [Exit.inBlock, Exit.then]); refine bodyPost_ret (results_none rfl _ _ _) rfl ?_
  exact ⟨rfl, rfl⟩
set_option maxHeartbeats 1000000 in
theorem nread (h : NoDk w p) (i : Int) : Calls Try.prog 31 #[p, .int .i64 i] w fun e w' => e = .returned (.tuple #[.slice none 0 0, .int .i64 91]) ∧ w' = w := by
  have HC := Lib.hid (ncheck h i)
  clear h
  go_enter Try.func31, Try.ntmps31
  go_wp2_with fail
  refine HC.out.mono ?_
  rintro e w1 ⟨rfl, rfl⟩
  go_wp2
  go_ret2
  exact ⟨rfl, rfl⟩
set_option maxHeartbeats 1000000 in
theorem nwrite (h : NoDk w p) (i : Int) (v : Value) : Calls Try.prog 30 #[p, .int .i64 i, v] w fun e w' => e = .returned (.int .i64 91) ∧ w' = w := by
  have HC := Lib.hid (ncheck h i)
  clear h
  go_enter Try.func30, Try.ntmps30
  go_wp2_with fail
  refine HC.out.mono ?_
  rintro e w1 ⟨rfl, rfl⟩
  go_wp2
  go_ret
  exact ⟨rfl, rfl⟩
set_option maxHeartbeats 1000000 in
theorem ncopy (h : NoDk w p) : Calls Try.prog 15 #[p] w fun e w' => e = .returned (.pointer none) ∧ w' = w := by
  have HC := Lib.hid (nmade h)
  clear h
  go_enter Try.func15, Try.ntmps15
  go_wp2_with fail
  refine HC.out.mono ?_
  rintro e w1 ⟨rfl, rfl⟩
  go_wp2
  go_ret
  exact ⟨rfl, rfl⟩
set_option maxHeartbeats 1000000 in
theorem nopen (h : NoDk w p) : Calls Try.prog 22 #[p] w fun e w' => e = .returned (.tuple #[.pointer none, .int .i64 91]) ∧ w' = w := by
  have HC := Lib.hid (ndown h)
  clear h
  go_enter Try.func22, Try.ntmps22
  go_wp2_with fail
  refine HC.out.mono ?_
  rintro e w1 ⟨rfl, rfl⟩
  go_wp2
  go_ret2
  exact ⟨rfl, rfl⟩
set_option maxRecDepth 100000 in
set_option maxHeartbeats 2000000 in
theorem nodisk (h : NoDk w p) (i : Int) (v : Value) : Calls Try.prog 17 #[p, .int .i64 i, v] w fun e w' => e = .returned (.bool true) ∧ w' = w := by
  have H1 := Lib.hid (narm h i i)
  have H2 := Lib.hid (nrestart h)
  have H3 := Lib.hid (nread h i)
  have H4 := Lib.hid (nopen h)
  have H5 := Lib.hid (ndown h)
  have H6 := Lib.hid (ncopy h)
  have H7 := Lib.hid (nwrite h i v)
  clear h
  go_enter Try.func17, Try.ntmps17
  go_wp2_with fail
  refine H1.out.mono ?_
  rintro e w1 ⟨rfl, rfl⟩
  go_wp2_with fail
  refine H2.out.mono ?_
  rintro e w1 ⟨rfl, rfl⟩
  go_wp2_with fail
  refine H3.out.mono ?_
  rintro e w1 ⟨rfl, rfl⟩
  go_wp2_with fail
  refine H4.out.mono ?_
  rintro e w1 ⟨rfl, rfl⟩
  go_wp2_with fail
  refine H5.out.mono ?_
  rintro e w1 ⟨rfl, rfl⟩
  go_wp2_with fail
  refine H6.out.mono ?_
  rintro e w1 ⟨rfl, rfl⟩
  go_wp2_with fail
  refine H7.out.mono ?_
  rintro e w1 ⟨rfl, rfl⟩
  go_wp2
  go_ret
  exact ⟨rfl, rfl⟩
theorem NoJn.below {w' : World} (h : NoJn w p) (hb : Below w.heap.size w w') : NoJn w' p := by
  rcases h with h | ⟨b, e, h⟩
  · exact .inl h
  · exact .inr ⟨b, e, h.below hb h.lt⟩
set_option maxHeartbeats 1000000 in
theorem nturn (h : NoJn w p) : Calls Try.prog 28 #[p] w fun e w' => e = .returned (.int .i64 0) ∧ w' = w := by
  have HC := Lib.hid (nopened h)
  clear h
  go_enter Try.func28, Try.ntmps28
  go_wp2_with fail
  refine HC.out.mono ?_
  rintro e w1 ⟨rfl, rfl⟩
  go_wp2
  go_ret
  exact ⟨rfl, rfl⟩
set_option maxHeartbeats 1000000 in
theorem nimage (h : NoJn w p) : Calls Try.prog 27 #[p] w fun e w' => e = .returned (.slice none 0 0) ∧ w' = w := by
  have HC := Lib.hid (nopened h)
  clear h
  go_enter Try.func27, Try.ntmps27
  go_wp2_with fail
  refine HC.out.mono ?_
  rintro e w1 ⟨rfl, rfl⟩
  go_wp2
  go_ret
  exact ⟨rfl, rfl⟩
set_option maxHeartbeats 1000000 in
theorem nsave (h : NoJn w p) (v : Value) : Calls Try.prog 24 #[p, v] w fun e w' => e = .returned (.int .i64 91) ∧ w' = w := by
  have HC := Lib.hid (nopened h)
  clear h
  go_enter Try.func24, Try.ntmps24
  go_wp2_with fail
  refine HC.out.mono ?_
  rintro e w1 ⟨rfl, rfl⟩
  go_wp2
  go_ret
  exact ⟨rfl, rfl⟩
set_option maxRecDepth 100000 in
set_option maxHeartbeats 1000000 in
theorem ndead (h : NoJn w p) : Calls Try.prog 26 #[p] w fun e w' => e = .returned (.bool true) ∧ Below w.heap.size w w' := by
  have K := Lib.hid (fun s : Ext w => same_below (nopened (h.below s.h)))
  clear h
  go_enter Try.func26, Try.ntmps26
  go_wp2
  refine wp_region_ext (by kernel_rfl) (by kernel_rfl) ?_
  repeat (go_big_quiet_step ((go_at_call 48; refine calls_ext (K.out _))))
  refine wpQuiet_nil ?_
  rintro _ ⟨s, rfl⟩
  go_wp2
  go_ret
  exact ⟨rfl, s.h⟩
set_option maxRecDepth 100000 in
set_option maxHeartbeats 2000000 in
theorem nojournal (h : NoJn w p) (v : Value) : Calls Try.prog 18 #[p, v] w fun e w' => e = .returned (.bool true) ∧ Below w.heap.size w w' := by
  have H1 := Lib.hid (nturn h)
  have H2 := Lib.hid (nimage h)
  have H3 := Lib.hid (ndead h)
  have H4 := Lib.hid (fun w' hb => nsave (h.below (w' := w') hb) v)
  clear h
  go_enter Try.func18, Try.ntmps18
  go_wp2_with fail
  refine H1.out.mono ?_
  rintro e w1 ⟨rfl, rfl⟩
  go_wp2_with fail
  refine H2.out.mono ?_
  rintro e w1 ⟨rfl, rfl⟩
  go_wp2_with fail
  refine H3.out.mono ?_
  rintro e w2 ⟨rfl, hb⟩
  go_wp2_with fail
  refine (H4.out w2 hb).mono ?_
  rintro e w3 ⟨rfl, rfl⟩
  go_wp2
  go_ret
  exact ⟨rfl, hb⟩
end
set_option maxRecDepth 100000 in
set_option maxHeartbeats 4000000 in
theorem law_nil (i : Int) (v : Value) (w : World) : Calls Try.prog 4 #[.int .i64 i, v] w fun e w' => e = .returned (.bool true) ∧ Below w.heap.size w w' := by
  have hB1 := (Below.refl w.heap.size w).alloc (Nat.le_refl _) (.cells #[.int .i64 0, .bool false, .slice none 0 0, .slice none 0 0, .int .i64 0, .int .i64 0] 39)
  have HB1 := Lib.hid hB1
  have b1 := Blk.new w 39 #[.int .i64 0, .bool false, .slice none 0 0, .slice none 0 0, .int .i64 0, .int .i64 0]
  have H1 := Lib.hid (nodisk (w := w) (.inl rfl) i v)
  have H2 := Lib.hid (nodisk (p := ptr w.heap.size) (.inr ⟨_, rfl, b1⟩) i v)
  have H3 := Lib.hid (fun W => nojournal (w := W) (p := .pointer none) (.inl rfl) v)
  clear b1 hB1
  go_enter Try.func4, Try.ntmps4
  go_wp2_with fail
  refine H1.out.mono ?_
  rintro e w1 ⟨rfl, rfl⟩
  go_wp2_with fail
  refine H2.out.mono ?_
  rintro e w2 ⟨rfl, rfl⟩
  go_wp2_with fail
  refine (H3.out _).mono ?_
  rintro e w3 ⟨rfl, hb3⟩
  have hB3 := HB1.out.trans (hb3.mono HB1.out.size)
  have b4 := Blk.new w3 42 #[.pointer none, .int .i64 0, .bool false, .int .i64 0, .slice none 0 0]
  have hB4 := hB3.alloc hB3.size (.cells #[.pointer none, .int .i64 0, .bool false, .int .i64 0, .slice none 0 0] 42)
  have H4 := Lib.hid (nojournal (p := ptr w3.heap.size) (.inr ⟨_, rfl, b4⟩) v)
  clear b4 hB3 hb3 H1 H2 H3 HB1
  go_wp2_with fail
  refine H4.out.mono ?_
  rintro e w5 ⟨rfl, hb5⟩
  have hB5 := hB4.trans (hb5.mono hB4.size)
  clear hb5 H4 hB4
  go_wp2_with fail
  refine (awake_any _).mono ?_
  rintro e w6 ⟨rfl, hb6⟩
  have hB6 := hB5.trans (hb6.mono hB5.size)
  go_wp2
  go_ret
  exact ⟨rfl, hB6⟩
end Go.Proofs.Ytalfffkcmddakab
