/- Reading: lines, what stands behind a mark, numbers. -/
import Derived.Test.YthabpgclnbmnpaaGreatDoorT8
import Derived.Test.YthabpgclnbmnpaaGreatDoorShelf2
namespace Go.Proofs.YthabpgclnbmnpaaGreatDoor
open Go.RowKit Go.Shelf

/-- nothing that lay in w is changed but block P -/
structure Fr (P : Nat) (w w' : World) : Prop where
  os : w'.os = w.os
  tape : w'.tape = w.tape
  output : w'.output = w.output
  size : w.heap.size ≤ w'.heap.size
  block : ∀ j, j < w.heap.size → j ≠ P → w'.heap[j]? = w.heap[j]?
theorem Fr.refl (P : Nat) (w : World) : Fr P w w := ⟨rfl, rfl, rfl, Nat.le_refl _, fun _ _ _ => rfl⟩
theorem Fr.trans {P : Nat} {w w' w'' : World} (h : Fr P w w') (k : Fr P w' w'') : Fr P w w'' :=
  ⟨k.os.trans h.os, k.tape.trans h.tape, k.output.trans h.output, Nat.le_trans h.size k.size, fun j hj hn => (k.block j (Nat.lt_of_lt_of_le hj h.size) hn).trans (h.block j hj hn)⟩
theorem Fr.of {P : Nat} {w w' : World} (h : Below w.heap.size w w') : Fr P w w' := ⟨h.os, h.tape, h.output, h.size, fun j hj _ => h.block j hj⟩
theorem Fr.set {P : Nat} {w : World} (i : Nat) (v : Value) : Fr P w (w.setCell ⟨P, i, none⟩ v) := by
  have h := (Below.refl P w).setCell (p := ⟨P, i, none⟩) (Nat.le_refl _) v
  exact ⟨h.os, h.tape, h.output, h.size, fun j _ hn => Below.heap_setCell w ⟨P, i, none⟩ v j hn⟩
theorem Fr.below {P B : Nat} {w w' : World} (h : Fr P w w') (hB : B ≤ P) (hs : B ≤ w.heap.size) : Below B w w' := ⟨h.os, h.tape, h.output, h.size, fun j hj => h.block j (Nat.lt_of_lt_of_le hj hs) (by omega)⟩
theorem Fr.blk {P g : Nat} {w w' : World} {t : TypeId} {cs : Array Value} (h : Fr P w w') (hb : Blk w g t cs) (hn : g ≠ P) : Blk w' g t cs := (h.block g hb.lt hn).trans hb
theorem Fr.own {P B k n : Nat} {w w' : World} {t : TypeId} {v : Value} {xs : List Value} (h : Fr P w w') (ho : w.ownsRow B t k v n xs) (hn : v.ownBlock ≠ some P) : w'.ownsRow B t k v n xs := by
  refine ho.kept (row := some P) ⟨h.os, h.tape, h.output, h.size, fun j hj hne => h.block j hj (fun e => hne (by rw [e]))⟩ ?_
  exact .inr hn
theorem scut_at (s : ByteArray) (c : UInt8) (a rest : List UInt8) (hs : Tx.byt s = a ++ c :: rest) (hn : ∀ b, b ∈ a → b ≠ c) (hm : s.size ≤ 1000000) (w : World) :
    Calls Tryz.prog 100 #[.string s, .string ⟨#[c]⟩] w fun e w' => e = .returned (.tuple #[.string ⟨a.toArray⟩, .string ⟨rest.toArray⟩, .bool true]) ∧ Below w.heap.size w w' := by
  have HI := Lib.hid (Tryz.stringslite_Index_one s c w)
  have hlen := congrArg List.length hs
  rw [Tx.byt_len, List.length_append, List.length_cons] at hlen
  have hix : Lib.indexByte s.data.toList c = (a.length : Int) := by
    show Lib.indexByte (Tx.byt s) c = _
    rw [hs]
    exact Tx.indexByte_at c a rest hn
  rw [hix] at HI
  have HA : Hid (s.extract 0 a.length = ⟨a.toArray⟩) := Lib.hid (by
    rw [← Tx.byt_back s, hs]
    apply ByteArray.ext
    rw [ByteArray.data_extract]
    apply Array.toList_inj.1
    simp)
  have HR : Hid (s.extract (a.length + 1) s.size = ⟨rest.toArray⟩) := Lib.hid (by
    rw [← Tx.byt_back s, hs, bsz]
    rw [drop_str]
    rw [List.drop_append, List.drop_of_length_le (by omega)]
    simp)
  have k0 : (0 : Int) ≤ a.length := by omega
  have k1 : (a.length : Int) ≤ s.size := by omega
  have k2 : (a.length : Int) + 1 ≤ s.size := by omega
  have k3 : a.length ≤ s.size := by omega
  have k4 : a.length + 1 ≤ s.size := by omega
  clear hs hn hix hlen
  generalize a.length = n at *
  go_enter Tryz.func100, Tryz.ntmps100
  go_wp2_with fail
  refine HI.out.mono ?_
  rintro e w1 ⟨rfl, rfl⟩
  go_wp2_with fail
  go_region
  go_wp2_with fail
  go_ret3
  refine ⟨?_, (Below.refl _ _).drew⟩
  rw [← HA.out, ← HR.out]
  rfl
theorem cut_at (s : ByteArray) (c : UInt8) (a rest : List UInt8) (hs : Tx.byt s = a ++ c :: rest) (hn : ∀ b, b ∈ a → b ≠ c) (hm : s.size ≤ 1000000) (w : World) :
    Calls Tryz.prog 86 #[.string s, .string ⟨#[c]⟩] w fun e w' => e = .returned (.tuple #[.string ⟨a.toArray⟩, .string ⟨rest.toArray⟩, .bool true]) ∧ Below w.heap.size w w' := by
  have HC := Lib.hid (scut_at s c a rest hs hn hm w)
  clear hs hn hm
  go_enter Tryz.func86, Tryz.ntmps86
  go_wp2_with fail
  refine HC.out.mono ?_
  rintro e w1 ⟨rfl, hb⟩
  go_wp2_with fail
  go_ret3
  exact ⟨rfl, hb⟩
theorem dgs_form (n : Nat) : ∃ c r, Tx.dgs n = c :: r ∧ 48 ≤ c.toNat ∧ c.toNat ≤ 57 ∧ (0 < n → c.toNat ≠ 48) := by
  have h1 := Tx.dgs_ne n
  have h2 := Tx.dgs_all n
  have h3 := Tx.dgs_head n
  cases hd : Tx.dgs n with
  | nil => exact absurd hd h1
  | cons c r =>
    rw [hd] at h2 h3
    have hc := h2 c (by simp)
    refine ⟨c, r, rfl, hc.1, hc.2, fun hn e => ?_⟩
    have := h3 hn
    simp only [List.head?_cons, ne_eq, Option.some.injEq] at this
    exact this (UInt8.toNat_inj.1 (by rw [e]; rfl))
theorem digs_of (n : Nat) : Tx.ofB [48, 49, 50, 51, 52, 53, 54, 55, 56, 57] (Tx.dgs n) = true := by
  unfold Tx.ofB
  rw [Bool.and_eq_true]
  constructor
  · rw [List.all_eq_true]
    intro b hb
    have h := Tx.dgs_all n b hb
    have := bytes_all (p := fun b => !(decide (48 ≤ b.toNat) && decide (b.toNat ≤ 57)) || decide (0 ≤ Lib.indexByte [48, 49, 50, 51, 52, 53, 54, 55, 56, 57] b)) (by decide +kernel) b
    simpa [h.1, h.2] using this
  · obtain ⟨c, r, h, _⟩ := dgs_form n
    rw [h]; rfl
theorem trim_dcm (z : Int) : Lib.trimPrefix (Tx.dcm z) [45] = Tx.dgs z.natAbs := by
  unfold Lib.trimPrefix Lib.hasPrefix Tx.dcm
  by_cases h : z < 0
  · rw [if_pos h]
    simp only [List.isPrefixOf, beq_self_eq_true, Bool.and_self, if_true, List.length_cons, List.length_nil, List.drop_succ_cons, List.drop_zero]
    rw [show (-z).toNat = z.natAbs by omega]
  · rw [if_neg h, show z.toNat = z.natAbs by omega]
    obtain ⟨c, r, hc, h1, h2, _⟩ := dgs_form z.natAbs
    rw [hc]
    have : ((45 : UInt8) == c) = false := by
      rw [beq_eq_false_iff_ne]
      rintro rfl
      have : (45 : UInt8).toNat = 45 := rfl
      omega
    simp [List.isPrefixOf, this]
set_option maxRecDepth 100000 in
set_option maxHeartbeats 2000000 in
theorem isnum_any (z : Int) (hz : -1000000 ≤ z ∧ z ≤ 1000000) (w : World) : Calls Tryz.prog 103 #[.string ⟨(Tx.dcm z).toArray⟩] w fun e w' => e = .returned (.bool true) ∧ w' = w := by
  have HT := Lib.hid (Tryz.strings_TrimPrefix ⟨(Tx.dcm z).toArray⟩ ⟨#[45]⟩)
  have e1 : (⟨(Tx.dcm z).toArray⟩ : ByteArray).data.toList = Tx.dcm z := by simp
  have e2 : (⟨#[45]⟩ : ByteArray).data.toList = [45] := rfl
  rw [e1, e2, trim_dcm] at HT
  obtain ⟨c, r, hc, h1, h2, h3⟩ := dgs_form z.natAbs
  have hlen := Tx.dgs_len z.natAbs 10 (by decide) (by omega)
  have HO := Lib.hid (isof_any ⟨(Tx.dgs z.natAbs).toArray⟩ ⟨#[48, 49, 50, 51, 52, 53, 54, 55, 56, 57]⟩ (by rw [bsz]; omega) true (by rw [Tx.byt_mk]; exact digs_of _))
  have hq : ((⟨(Tx.dcm z).toArray⟩ : ByteArray).toList == [48]) = decide (z = 0) := by
    rw [ByteArray.toList_eq, e1]
    by_cases h0 : z = 0
    · subst h0
      have : Tx.dcm 0 = [48] := by unfold Tx.dcm Tx.dgs; simp
      rw [this]; rfl
    · rw [decide_eq_false h0, beq_eq_false_iff_ne]
      unfold Tx.dcm
      by_cases hneg : z < 0
      · rw [if_pos hneg]; intro e; injection e with e _; cases e
      · rw [if_neg hneg, show z.toNat = z.natAbs by omega, hc]
        intro e
        injection e with e _
        exact h3 (by omega) (by rw [e]; rfl)
  rw [hc] at HT HO
  by_cases h0 : z = 0
  · rw [decide_eq_true h0] at hq
    clear HO hc hlen e1 h3
    generalize (⟨(Tx.dcm z).toArray⟩ : ByteArray) = s at *
    go_enter Tryz.func103, Tryz.ntmps103
    go_wp2_with fail
    refine (HT.out _).mono ?_
    rintro e w1 ⟨rfl, rfl⟩
    go_wp2_with fail
    go_ret
    exact ⟨rfl, rfl⟩
  · rw [decide_eq_false h0] at hq
    have hne : ((c.toNat : Int) != 48) = true := by rw [bne_iff_ne]; have := h3 (by omega); omega
    clear hc hlen e1 h3 h0 hz
    generalize (⟨(Tx.dcm z).toArray⟩ : ByteArray) = s at *
    go_enter Tryz.func103, Tryz.ntmps103
    go_wp2_with fail
    refine (HT.out _).mono ?_
    rintro e w1 ⟨rfl, rfl⟩
    go_wp2_with fail
    refine (HO.out _).mono ?_
    rintro e w1 ⟨rfl, rfl⟩
    go_wp2_with fail
    go_ret
    exact ⟨congrArg (fun x => Ending.returned (Value.bool x)) hne, rfl⟩
set_option maxRecDepth 100000 in
set_option maxHeartbeats 2000000 in
theorem coord_any (z : Int) (hz : -1000000 ≤ z ∧ z ≤ 1000000) (w : World) : Calls Tryz.prog 89 #[.string ⟨(Tx.dcm z).toArray⟩] w fun e w' => e = .returned (.int .i64 z) ∧ Below w.heap.size w w' := by
  have HN := Lib.hid (isnum_any z hz)
  have HD := Lib.hid (fun w => need_ok 3 w)
  have hl := dcm_len z (by omega)
  have HA := Lib.hid (Tryz.strconv_Atoi_ok ⟨(Tx.dcm z).toArray⟩ (by rw [bsz]; omega) z (by show Lib.atoiAll (Tx.dcm z).toArray.toList = _; rw [List.toList_toArray]; exact Tx.atoi_dcm hz))
  clear hl
  generalize (⟨(Tx.dcm z).toArray⟩ : ByteArray) = s at *
  go_enter Tryz.func89, Tryz.ntmps89
  go_wp2_with fail
  refine (HN.out _).mono ?_
  rintro e w1 ⟨rfl, rfl⟩
  go_wp2_with fail
  refine (HD.out _).mono ?_
  rintro e w1 ⟨rfl, rfl⟩
  go_wp2_with fail
  refine (HA.out _).mono ?_
  rintro e w2 ⟨rfl, hw2⟩
  have HB : Hid (Below w1.heap.size w1 w2) := Lib.hid (by
    rcases hw2 with rfl | ⟨t, rfl⟩
    · exact Below.refl _ _
    · exact Joins.below_bytesWorld _ _ _ _ (Nat.le_refl _))
  clear hw2
  go_wp2_with fail
  go_ret
  exact ⟨rfl, HB.out⟩
end Go.Proofs.YthabpgclnbmnpaaGreatDoor
