/- Reading: a line, what stands behind a mark. -/
import Derived.Test.YthabpgclnbmnpaaGreatDoorT9
namespace Go.Proofs.YthabpgclnbmnpaaGreatDoor
open Go.RowKit Go.Shelf

theorem drop_next {L a rest : List UInt8} {p : Nat} {c : UInt8} (h : L.drop p = a ++ c :: rest) : L.drop (p + a.length + 1) = rest := by
  have h1 : (L.drop p).drop (a.length + 1) = rest := by
    rw [h, List.drop_append, List.drop_of_length_le (by omega)]
    simp
  rw [List.drop_drop] at h1
  rw [← h1]
  congr 1
theorem drop_lt {L a rest : List UInt8} {p : Nat} {c : UInt8} (h : L.drop p = a ++ c :: rest) : p + a.length + 1 ≤ L.length := by
  have := congrArg List.length h
  rw [List.length_drop, List.length_append, List.length_cons] at this
  omega
theorem tail_str (T : ByteArray) (p : Nat) (l : List UInt8) (h : (Tx.byt T).drop p = l) : T.extract p T.size = ⟨l.toArray⟩ := by
  rw [← h, ← drop_str]
  rw [Tx.byt_back, Tx.byt_len]
set_option maxRecDepth 100000 in
set_option maxHeartbeats 2000000 in
theorem line_any (P p : Nat) (T : ByteArray) (a rest : List UInt8) (hT : (Tx.byt T).drop p = a ++ 10 :: rest) (hn : ∀ b, b ∈ a → b ≠ 10) (hm : T.size ≤ 1000000) (w : World) (hB : Blk w P 71 #[.string T, .int .i64 p]) :
    Calls Tryz.prog 65 #[.pointer (some ⟨P, 0, none⟩)] w fun e w' => e = .returned (.string ⟨a.toArray⟩) ∧ Blk w' P 71 #[.string T, .int .i64 (p + a.length + 1 : Nat)] ∧ Fr P w w' := by
  have hle := drop_lt hT
  rw [Tx.byt_len] at hle
  have htl := tail_str T p _ hT
  have HC := Lib.hid (cut_at ⟨(a ++ 10 :: rest).toArray⟩ 10 a rest (by rw [Tx.byt_mk]) hn (by
    rw [bsz, ← hT, List.length_drop, Tx.byt_len]; omega))
  have HN := Lib.hid (fun w => need_ok 3 w)
  have HF := Lib.hid hB
  have hlt := hB.lt
  have k0 : (0 : Int) ≤ p := by omega
  have k1 : (p : Int) ≤ T.size := by omega
  have k2 : p ≤ T.size := by omega
  have k3 : p + a.length + 1 ≤ 1000000 := by omega
  have q0 := fun s : Ext w => s.cell (p := ⟨P, 0, none⟩) (hB.cell 0)
  have q1 := fun s : Ext w => s.cell (p := ⟨P, 1, none⟩) (hB.cell 1)
  clear hT hn hB hle
  generalize (a ++ 10 :: rest : List UInt8) = D at *
  go_enter Tryz.func65, Tryz.ntmps65
  go_wp2_with fail
  refine wp_region_ext (by kernel_rfl) (by kernel_rfl) ?_
  repeat (go_big_quiet_step (first | (go_at_call 86; refine calls_ext (HC.out _))))
  refine wpQuiet_nil ?_
  rintro _ ⟨s, rfl⟩
  have bF := HF.out.below s.h hlt
  have p0 := bF.cell 0
  have p1 := bF.cell 1
  have z1 := bF.frozen 1
  have HF1 := Lib.hid bF
  have HB1 := Lib.hid s.h
  clear q0 q1 bF
  generalize s.w = w1 at *
  clear s
  go_wp2_with fail
  refine (HN.out _).mono ?_
  rintro e w2 ⟨rfl, rfl⟩
  go_wp2_with fail
  go_ret
  refine ⟨rfl, ?_, (Fr.of HB1.out).trans (Fr.set 1 _)⟩
  have h := HF1.out.set_ 1 (.int .i64 ((p : Int) + ((a.length : Int) + 1)))
  rw [show ((p + a.length + 1 : Nat) : Int) = (p : Int) + ((a.length : Int) + 1) by omega]
  exact h
theorem isPrefixOf_append (m b : List UInt8) : m.isPrefixOf (m ++ b) = true := by
  induction m with
  | nil => rfl
  | cons x m ih => simp [ih]
set_option maxRecDepth 100000 in
set_option maxHeartbeats 2000000 in
theorem after_any (P p : Nat) (T m : ByteArray) (b rest : List UInt8) (hT : (Tx.byt T).drop p = (Tx.byt m ++ b) ++ 10 :: rest) (hn : ∀ x, x ∈ Tx.byt m ++ b → x ≠ 10) (hm : T.size ≤ 1000000) (w : World) (hB : Blk w P 71 #[.string T, .int .i64 p]) :
    Calls Tryz.prog 66 #[.pointer (some ⟨P, 0, none⟩), .string m] w fun e w' => e = .returned (.string ⟨b.toArray⟩) ∧ Blk w' P 71 #[.string T, .int .i64 (p + (Tx.byt m ++ b).length + 1 : Nat)] ∧ Fr P w w' := by
  have HL := Lib.hid (line_any P p T _ rest hT hn hm w hB)
  have HN := Lib.hid (fun w => need_ok 3 w)
  have HC := Lib.hid (Tryz.strings_CutPrefix ⟨(Tx.byt m ++ b).toArray⟩ m)
  have e1 : (⟨(Tx.byt m ++ b).toArray⟩ : ByteArray).data.toList = Tx.byt m ++ b := by simp
  have e2 : m.data.toList = Tx.byt m := rfl
  have e3 : Lib.hasPrefix (Tx.byt m ++ b) (Tx.byt m) = true := isPrefixOf_append _ _
  have e4 : Lib.trimPrefix (Tx.byt m ++ b) (Tx.byt m) = b := by
    unfold Lib.trimPrefix
    rw [e3, if_pos rfl]
    simp
  rw [e1, e2, e3, e4] at HC
  clear hT hn hB e1 e2 e3 e4
  generalize (Tx.byt m ++ b : List UInt8) = D at *
  go_enter Tryz.func66, Tryz.ntmps66
  go_wp2_with fail
  refine HL.out.mono ?_
  rintro e w1 ⟨rfl, hB1, hF1⟩
  have HX := Lib.hid (And.intro hB1 hF1)
  clear hB1 hF1
  go_wp2_with fail
  refine (HC.out _).mono ?_
  rintro e w2 ⟨rfl, rfl⟩
  go_wp2_with fail
  refine (HN.out _).mono ?_
  rintro e w2 ⟨rfl, rfl⟩
  go_wp2_with fail
  go_ret
  exact ⟨rfl, HX.out.1, HX.out.2⟩
end Go.Proofs.YthabpgclnbmnpaaGreatDoor
