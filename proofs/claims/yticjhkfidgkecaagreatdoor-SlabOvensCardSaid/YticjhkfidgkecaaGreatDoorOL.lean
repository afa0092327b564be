/- The listed variables, with what they hold, and what the walks need of them. -/
import Derived.Test.YticjhkfidgkecaaGreatDoorB2
import Derived.Test.YticjhkfidgkecaaGreatDoorRows
import Derived.Lib.LaidTab
import Derived.MakeChecks
import Derived.Lay
import Derived.LaidOnce
namespace Go.Proofs.YticjhkfidgkecaaGreatDoor
open Go.ChangeShapes Go.WideShapes Go.ChangeAt Go.RowKit Pl
set_option maxRecDepth 100000

def laidL : List (String × DataW Unit) := [("math/bits.deBruijn32tab", Rows.laid_math_bits_deBruijn32tab), ("math/bits.deBruijn64tab", Rows.laid_math_bits_deBruijn64tab), ("internal/strconv.uint64pow10", Rows.laid_internal_strconv_uint64pow10), ("unicode/utf8.acceptRanges", Rows.laid_unicode_utf8_acceptRanges), ("strconv.ErrRange", Rows.laid_strconv_ErrRange), ("strconv.ErrSyntax", Rows.laid_strconv_ErrSyntax), ("pantoscope/slab.colours", Rows.laid_pantoscope_slab_colours), ("pantoscope/slab.kinds", Rows.laid_pantoscope_slab_kinds), ("unicode/utf8.first", Rows.laid_unicode_utf8_first)]

theorem laid_tail {P : Program} {x : String × DataW Unit} {l : List (String × DataW Unit)} {w : World} (h : laidMet P (x :: l) w) : laidMet P l w := by
  obtain ⟨ps, ⟨g, t, cs, fuel, p, q, _, _, _, _, hl, rfl⟩, hn, hc⟩ := h
  exact ⟨q, hl, (List.nodup_append.1 hn).2.1, fun b off hm => hc b off (List.mem_append.2 (.inr hm))⟩
theorem laid_head {P : Program} {n : String} {d : DataW Unit} {l : List (String × DataW Unit)} {w : World} {g : Nat} {t : TypeId} (hg : P.globalNamed n = some g) (ht : (P.globals[g]?).map (·.type) = some t) (h : laidMet P ((n, d) :: l) w) :
    ∃ cs fuel p, w.var? P n = some cs ∧ DataW.trod (fun _ => ()) P w 0 (fun _ => true) false fuel t cs.toList = some (d, p) ∧ (0 < cs.size → ∃ u, Blk w g u cs) := by
  obtain ⟨ps, ⟨g', t', cs, fuel, p, q, hg', ht', hv, hd, hl, rfl⟩, hn, hc⟩ := h
  obtain rfl := Option.some.inj (hg.symm.trans hg')
  obtain rfl := Option.some.inj (ht.symm.trans ht')
  refine ⟨cs, fuel, p, hv, hd, fun h0 => ?_⟩
  obtain ⟨⟨c, u, hb⟩, _⟩ := hc g 0 (List.mem_append.2 (.inl (List.mem_append.2 (.inl (by
    unfold MemPlace.row
    exact List.mem_map.2 ⟨0, List.mem_range.2 h0, rfl⟩)))))
  unfold World.var? at hv
  rw [hg] at hv
  simp only [Option.bind_some, hb] at hv
  cases hv
  exact ⟨u, hb⟩
theorem trod_err {P : Program} {w : World} {fuel : Nat} {t : TypeId} {ms : Array (String × TypeId)} {cs : List Value} {s : String} {d : DataW Unit} {p : List MemPlace} (ht : P.underlying t = some (.interface ms))
    (h : DataW.trod (fun _ => ()) P w 0 (fun _ => true) false fuel t cs = some (.iface s d, p)) : ∃ u v, cs = [.iface u v] := by
  cases fuel with
  | zero => simp [DataW.trod] at h
  | succ n =>
    unfold DataW.trod at h
    rw [ht] at h
    split at h <;> first | (simp at h; done) | (rename_i h1; cases h1; done) | skip
    all_goals first | exact ⟨_, _, rfl⟩ | (simp_all; done)
theorem cells_u8 : Tryz.prog.cellsOf 5 = 1 := by kernel_rfl
theorem cells_u64 : Tryz.prog.cellsOf 164 = 1 := by kernel_rfl
theorem cells_str : Tryz.prog.cellsOf 9 = 1 := by kernel_rfl
theorem cells_i : Tryz.prog.cellsOf 3 = 1 := by kernel_rfl
theorem trod_kd {w : World} {fuel : Nat} {cs : List Value} {s : List UInt8} {u v : Int} {p : List MemPlace} (hl : cs.length = 3)
    (h : DataW.trod (fun _ => ()) Tryz.prog w 0 (fun _ => true) false fuel 127 cs = some (.agg [.lit (.string s), .lit (.int .i64 u), .lit (.int .i64 v)], p)) : cs = [str s, .int .i64 u, .int .i64 v] := by
  match cs, hl with
  | [c0, c1, c2], _ =>
    obtain ⟨xs, n, _, hx, _, hlen, hg⟩ := DataW.trod_struct Tryz.underlying127 h
    match xs, hlen with
    | [y0, y1, y2], _ =>
      have g0 := hg 0 _ rfl
      have g1 := hg 1 _ rfl
      have g2 := hg 2 _ rfl
      simp [cells_str, cells_i] at g0 g1 g2
      obtain ⟨b, e0, h0, _⟩ := DataW.trod_string Tryz.underlying9 g0
      obtain ⟨k1, e1, h1, _⟩ := DataW.trod_int (k := .i64) Tryz.underlying3 g1
      obtain ⟨k2, e2, h2, _⟩ := DataW.trod_int (k := .i64) Tryz.underlying3 g2
      simp only [List.map_cons, List.map_nil, Prod.mk.injEq, DataW.agg.injEq, List.cons.injEq, h0, h1, h2, DataW.lit.injEq, Lit.string.injEq, Lit.int.injEq, true_and, and_true] at hx
      obtain ⟨⟨rfl, rfl, rfl⟩, _⟩ := hx
      cases e0; cases e1; cases e2
      rfl
theorem pow_lit : (Rows.laid_internal_strconv_uint64pow10 : DataW Unit) = Lib.tabData .u64 Lib.pow10Tab := by kernel_rfl
theorem col_lit : (Rows.laid_pantoscope_slab_colours : DataW Unit) = Lib.tabData .u8 [97, 98, 99, 100, 101, 102, 103, 104, 105] := by kernel_rfl
theorem trod_len {P : Program} {w : World} {fuel : Nat} {t e : TypeId} {n : Nat} {cs : List Value} {x : DataW Unit × List MemPlace} (ht : P.underlying t = some (.array n e)) (h : DataW.trod (fun _ => ()) P w 0 (fun _ => true) false fuel t cs = some x) : cs.length = P.cellsOf t := by
  obtain ⟨xs, m, _, _, hl, _⟩ := DataW.trod_array ht h
  exact hl
theorem kinds_of {W : World} {fuel : Nat} {cs : List Value} {p : List MemPlace} (h : DataW.trod (fun _ => ()) Tryz.prog W 0 (fun _ => true) false fuel 152 cs = some (Rows.laid_pantoscope_slab_kinds, p)) : cs = kindCells := by
  have hl := trod_len Tryz.underlying152 h
  rw [show Tryz.prog.cellsOf 152 = 18 by kernel_rfl] at hl
  obtain ⟨xs, m, _, hx, _, hlen, hg⟩ := DataW.trod_array Tryz.underlying152 h
  have c3 : Tryz.prog.cellsOf 127 = 3 := by kernel_rfl
  rw [c3] at hg
  match cs, hl, xs, hlen with
  | [a0, a1, a2, a3, a4, a5, a6, a7, a8, a9, a10, a11, a12, a13, a14, a15, a16, a17], _, [⟨y0, r0⟩, ⟨y1, r1⟩, ⟨y2, r2⟩, ⟨y3, r3⟩, ⟨y4, r4⟩, ⟨y5, r5⟩], _ =>
    have g0 := hg 0 (by omega)
    have g1 := hg 1 (by omega)
    have g2 := hg 2 (by omega)
    have g3 := hg 3 (by omega)
    have g4 := hg 4 (by omega)
    have g5 := hg 5 (by omega)
    simp at g0 g1 g2 g3 g4 g5
    unfold Rows.laid_pantoscope_slab_kinds at hx
    simp only [List.map_cons, List.map_nil, Prod.mk.injEq, DataW.agg.injEq, List.cons.injEq, and_true] at hx
    obtain ⟨⟨rfl, rfl, rfl, rfl, rfl, rfl⟩, _⟩ := hx
    have k0 := trod_kd rfl g0
    have k1 := trod_kd rfl g1
    have k2 := trod_kd rfl g2
    have k3 := trod_kd rfl g3
    have k4 := trod_kd rfl g4
    have k5 := trod_kd rfl g5
    cases k0; cases k1; cases k2; cases k3; cases k4; cases k5
    rfl
theorem env_of_laid {W : World} (h : laidMetH Tryz.prog laidL W) : Env W ∧ 8 ≤ W.heap.size := by
  rw [MakeChecks.laidMetH_plain _ _ _ (by kernel_rfl)] at h
  unfold laidL at h
  have h1 := laid_tail h
  have h2 := laid_tail h1
  have h3 := laid_tail h2
  have h4 := laid_tail h3
  have h5 := laid_tail h4
  have h6 := laid_tail h5
  have h7 := laid_tail h6
  obtain ⟨cs1, _, _, v1, d1, b1⟩ := laid_head (g := 7) (t := 214) (by kernel_rfl) (by kernel_rfl) h1
  obtain ⟨cs4, _, _, v4, d4, _⟩ := laid_head (g := 5) (t := 168) (by kernel_rfl) (by kernel_rfl) h4
  obtain ⟨cs5, _, _, v5, d5, _⟩ := laid_head (g := 4) (t := 168) (by kernel_rfl) (by kernel_rfl) h5
  obtain ⟨cs6, _, _, v6, d6, b6⟩ := laid_head (g := 0) (t := 90) (by kernel_rfl) (by kernel_rfl) h6
  obtain ⟨cs7, _, _, v7, d7, b7⟩ := laid_head (g := 1) (t := 152) (by kernel_rfl) (by kernel_rfl) h7
  rw [pow_lit] at h2
  rw [col_lit] at d6
  have T := Lib.tabIs_of_head (g := 2) (by kernel_rfl) (t := 190) (by kernel_rfl) Tryz.underlying190 Tryz.underlying164 cells_u64 (by kernel_rfl) h2
  have e6 := Lib.cells_of_tab Tryz.underlying90 Tryz.underlying5 cells_u8 (by kernel_rfl) d6
  obtain ⟨u4, x4, e4⟩ := trod_err Tryz.underlying168 d4
  obtain ⟨u5, x5, e5⟩ := trod_err Tryz.underlying168 d5
  have hk := kinds_of d7
  refine ⟨⟨⟨?_, ?_⟩, T, ⟨u5, x5, ?_⟩, ⟨u4, x4, ?_⟩⟩, ?_⟩
  · obtain ⟨u, hb⟩ := b6 (by rw [← Array.length_toList, e6]; decide)
    refine ⟨u, ?_⟩
    have : cs6 = #[.int .u8 97, .int .u8 98, .int .u8 99, .int .u8 100, .int .u8 101, .int .u8 102, .int .u8 103, .int .u8 104, .int .u8 105] := by
      apply Array.toList_inj.1; rw [e6]; rfl
    rw [← this]; exact hb
  · obtain ⟨u, hb⟩ := b7 (by rw [← Array.length_toList, hk]; decide)
    refine ⟨u, ?_⟩
    have : cs7 = kindCells.toArray := by apply Array.toList_inj.1; rw [hk]
    rw [← this]; exact hb
  · rw [v5]; exact congrArg some (Array.toList_inj.1 (by rw [e5]))
  · rw [v4]; exact congrArg some (Array.toList_inj.1 (by rw [e4]))
  · obtain ⟨u, hb⟩ := b1 (by
      have := trod_len Tryz.underlying214 d1
      rw [← Array.length_toList, this, show Tryz.prog.cellsOf 214 = 64 by kernel_rfl]; decide)
    exact hb.lt
end Go.Proofs.YticjhkfidgkecaaGreatDoor
