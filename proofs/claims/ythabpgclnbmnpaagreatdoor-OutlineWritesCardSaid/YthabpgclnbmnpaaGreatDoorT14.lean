/- The law of the text of a trace. -/
import Derived.Test.YthabpgclnbmnpaaGreatDoorT13
import Derived.Test.YthabpgclnbmnpaaGreatDoorG2
import Derived.Test.YthabpgclnbmnpaaGreatDoorM3
namespace Go.Proofs.YthabpgclnbmnpaaGreatDoor
open Go.RowKit Go.Shelf

theorem valid_of_rg {l : List Geo.XY} (h3 : 3 ≤ l.length) (h64 : l.length ≤ 64) (hin : ∀ p, p ∈ l → Geo.In p) (h : Geo.RG l) : Valid l :=
  ⟨h3, h64, fun _ hk => hin _ (Geo.X_mem hk), (Geo.rglob_iff h3).2 h⟩
theorem Valid.rg {l : List Geo.XY} (h : Valid l) : Geo.RG l := (Geo.rglob_iff h.1).1 h.2.2.2
theorem Valid.mem_in {l : List Geo.XY} (h : Valid l) {p : Geo.XY} (hp : p ∈ l) : Geo.In p := by
  obtain ⟨i, hi, rfl⟩ := Geo.mem_X hp; exact h.2.2.1 i hi
theorem Valid.dist {l : List Geo.XY} (h : Valid l) : Geo.Dist l := h.rg.dist h.1
theorem Valid.rot {l : List Geo.XY} (h : Valid l) {k : Nat} (hk : k ≤ l.length) : Valid (Geo.Rot l k) :=
  valid_of_rg (by rw [Geo.Rot_length hk]; exact h.1) (by rw [Geo.Rot_length hk]; exact h.2.1) (fun _ hp => h.mem_in (Geo.mem_Rot.1 hp)) (h.rg.rot hk)
theorem Valid.canon {l : List Geo.XY} (h : Valid l) : Valid (Geo.canon l) := h.rot (Geo.lowIdx_le l)
theorem Valid.pos {l : List Geo.XY} (h : Valid l) : 0 < l.length := by have := h.1; omega
theorem canon_same {l : List Geo.XY} (h : Valid l) : Geo.canon (Geo.canon l) = Geo.canon l := Geo.canon_canon h.dist h.pos

set_option maxRecDepth 100000 in
set_option maxHeartbeats 4000000 in
theorem sametrace_any (j : ByteArray) (b : UInt8) (A B : Option Addr) (l : List Geo.XY) (c c' : Nat) (hl : l.length ≤ 64) (w : World) (hA : Pts w A l) (hB : Pts w B l) :
    Calls Tryz.prog 9 #[.agg #[.string j, .int .u8 b.toNat, .slice A l.length c], .agg #[.string j, .int .u8 b.toNat, .slice B l.length c']] w fun e w' => e = .returned (.bool true) ∧ Below w.heap.size w w' := by
  have hW : Below w.heap.size w ((w.alloc (.cells #[.string j, .int .u8 b.toNat, .slice A l.length c] 24)).alloc (.cells #[.string j, .int .u8 b.toNat, .slice B l.length c'] 24)) := ((Below.refl w.heap.size w).alloc (Nat.le_refl _) _).alloc (by simp) _
  have HS := Lib.hid (same_any A B l l c c' _ (hA.below hW) (hB.below hW) (by omega) true (eqB_self l))
  have HW := Lib.hid hW
  clear hA hB hW
  go_enter Tryz.func9, Tryz.ntmps9
  go_wp2_with fail
  refine HS.out.mono ?_
  rintro e w1 ⟨rfl, hb⟩
  have HB := Lib.hid (HW.out.trans (hb.mono HW.out.size))
  clear hb
  go_wp2_with fail
  go_ret
  exact ⟨rfl, HB.out⟩
set_option maxRecDepth 100000 in
set_option maxHeartbeats 4000000 in
/-- both refuse alike -/
theorem writes_no (j : ByteArray) (b : UInt8) (A : Option Addr) (l : List Geo.XY) (c : Nat) (E : Int) (hE0 : (E == 0) = false) (w : World)
    (hD : ∀ w1, Below w.heap.size w w1 → Calls Tryz.prog 4 #[.agg #[.string j, .int .u8 b.toNat, .slice A l.length c]] w1 fun e w' => e = .returned (.tuple #[.string ⟨#[]⟩, .int .i64 E]) ∧ Below w1.heap.size w1 w')
    (hR : ∀ w1, Below w.heap.size w w1 → Calls Tryz.prog 5 #[.agg #[.string j, .int .u8 b.toNat, .slice A l.length c]] w1 fun e w' => e = .returned (.tuple #[.string ⟨#[]⟩, .int .i64 E]) ∧ Below w1.heap.size w1 w') :
    Calls Tryz.prog 3 #[.agg #[.string j, .int .u8 b.toNat, .slice A l.length c]] w fun e w' => e = .returned (.bool true) ∧ Below w.heap.size w w' := by
  have hB := (Below.refl w.heap.size w).alloc (Nat.le_refl _) (.cells #[.string j, .int .u8 b.toNat, .slice A l.length c] 24)
  have b0 := Blk.new w 24 #[.string j, .int .u8 b.toNat, .slice A l.length c]
  have HD := Lib.hid (hD _ hB)
  have HR := Lib.hid hR
  have HB := Lib.hid (And.intro hB b0)
  have hE1 : (E != 0) = true := by simp at hE0; simpa using hE0
  clear hD hR hB b0
  go_enter Tryz.func3, Tryz.ntmps3
  go_wp2_with fail
  generalize w.alloc (.cells #[.string j, .int .u8 b.toNat, .slice A l.length c] 24) = W at *
  refine HD.out.mono ?_
  rintro e w1 ⟨rfl, hb⟩
  obtain ⟨hB, b0⟩ := HB.out
  have c0 := b0.below hb b0.lt
  have p0 := c0.cell 0
  have p1 := c0.cell 1
  have p2 := c0.cell 2
  have HB1 := Lib.hid (hB.trans (hb.mono hB.size))
  clear hB b0 hb c0 HB HD
  go_wp2_with fail
  refine (HR.out _ HB1.out).mono ?_
  rintro e w2 ⟨rfl, hb⟩
  have HB2 := Lib.hid (HB1.out.trans (hb.mono HB1.out.size))
  clear hb p0 p1 p2
  go_wp2_with fail
  refine (awake_any _).mono ?_
  rintro e w3 ⟨rfl, hb⟩
  have HB3 := Lib.hid (HB2.out.trans (hb.mono HB2.out.size))
  clear hb
  go_wp2_with fail
  go_ret
  exact ⟨rfl, HB3.out⟩
set_option maxRecDepth 100000 in
set_option maxHeartbeats 8000000 in
theorem writes_ok (j : ByteArray) (b : UInt8) (A : Option Addr) (l : List Geo.XY) (c : Nat) (hcap : l.length ≤ c) (hv : validB l = true) (hjv : Tx.jobB (Tx.byt j) = true) (hsv : Tx.sideB b = true) (w : World) (hP : Pts w A l) (hE : EnvT w) :
    Calls Tryz.prog 3 #[.agg #[.string j, .int .u8 b.toNat, .slice A l.length c]] w fun e w' => e = .returned (.bool true) ∧ Below w.heap.size w w' := by
  have hval := valid_of hv
  have hvc := validB_true hval.canon
  have hcc := canon_same hval
  have hj12 : j.size ≤ 12 := by
    rw [jobB_eq, Tx.byt_len] at hjv
    simp at hjv
    omega
  have hl64 := hval.canon.2.1
  have hB := (Below.refl w.heap.size w).alloc (Nat.le_refl _) (.cells #[.string j, .int .u8 b.toNat, .slice A l.length c] 24)
  have b0 := Blk.new w 24 #[.string j, .int .u8 b.toNat, .slice A l.length c]
  have HD := Lib.hid (dformat_ok j b A l c hcap hv hjv hsv _ (hP.below hB) (hE.below hB))
  have HR := Lib.hid (fun w1 (hb : Below w.heap.size w w1) => rformat_ok j b A l c hcap hv hjv hsv w1 (hP.below hb))
  have hfl := front_len (Tx.byt j) b (Geo.canon l) (by rw [Tx.byt_len]; exact hj12) hl64 hval.canon.allin
  have HPA := Lib.hid (fun w1 (hb : Below w.heap.size w w1) => parse_any ⟨(Tx.txt (Tx.byt j) b (Geo.canon l)).toArray⟩ j b (Geo.canon l) hvc hcc hjv hsv (by rw [Tx.byt_mk]) (by
    rw [bsz]
    unfold Tx.txt
    rw [List.length_append]
    have : (83 :: 85 :: 77 :: 32 :: (Tx.hex4 (Tx.sumN (Tx.front (Tx.byt j) b (Geo.canon l))) ++ [10])).length = 9 := rfl
    omega) w1 (hE.below hb))
  have HCN := Lib.hid (fun w1 (hb : Below w.heap.size w w1) => dcanonical A l c w1 (hP.below hb) hcap)
  rw [canonV_ok hv] at HCN
  have HB := Lib.hid (And.intro hB b0)
  clear hB b0 hv hjv hsv hP hE hval hvc hcc hfl
  generalize (⟨(Tx.txt (Tx.byt j) b (Geo.canon l)).toArray⟩ : ByteArray) = TX at *
  generalize Geo.canon l = cl at *
  go_enter Tryz.func3, Tryz.ntmps3
  go_wp2_with fail
  generalize w.alloc (.cells #[.string j, .int .u8 b.toNat, .slice A l.length c] 24) = W at *
  refine HD.out.mono ?_
  rintro e w1 ⟨rfl, hb⟩
  obtain ⟨hB, b0⟩ := HB.out
  have c0 := b0.below hb b0.lt
  have p0 := c0.cell 0
  have p1 := c0.cell 1
  have p2 := c0.cell 2
  have HB1 := Lib.hid (And.intro (hB.trans (hb.mono hB.size)) c0)
  clear hB b0 hb c0 HB HD
  go_wp2_with fail
  refine (HR.out _ HB1.out.1).mono ?_
  rintro e w2 ⟨rfl, hb⟩
  have c0 := HB1.out.2.below hb HB1.out.2.lt
  have HB2 := Lib.hid (And.intro (HB1.out.1.trans (hb.mono HB1.out.1.size)) c0)
  clear hb c0 p0 p1 p2 HB1 HR
  go_wp2_with fail
  refine (HPA.out _ HB2.out.1).mono ?_
  rintro e w3 ⟨v, rfl, ho, hb⟩
  obtain ⟨A1, c1, rfl, hp1, _⟩ := pts_cap ho
  have c0 := HB2.out.2.below hb HB2.out.2.lt
  have hB3 := HB2.out.1.trans (hb.mono HB2.out.1.size)
  have HA := Lib.hid ((Below.refl w3.heap.size w3).alloc (Nat.le_refl _) (.cells #[.string j, .int .u8 b.toNat, .slice A1 cl.length c1] 24))
  have HP1 := Lib.hid (hp1.below HA.out)
  have c1' := c0.alloc (.cells #[.string j, .int .u8 b.toNat, .slice A1 cl.length c1] 24)
  have q0 := (Blk.new w3 24 #[.string j, .int .u8 b.toNat, .slice A1 cl.length c1])
  have p0 := c1'.cell 0
  have p1 := c1'.cell 1
  have p2 := c1'.cell 2
  have HB3 := Lib.hid (And.intro (hB3.trans (HA.out.mono hB3.size)) (And.intro c1' q0))
  clear c0 hb ho hp1 hB3 c1' q0 HB2 HPA HA
  go_wp2_with fail
  generalize w3.alloc (.cells #[.string j, .int .u8 b.toNat, .slice A1 cl.length c1] 24) = W3 at *
  refine (HCN.out _ HB3.out.1).mono ?_
  rintro e w4 ⟨v2, rfl, ho2, hb⟩
  obtain ⟨A2, c2, rfl, hp2, _⟩ := pts_cap ho2
  obtain ⟨hB3, b0, b1⟩ := HB3.out
  have d0 := b0.below hb b0.lt
  have d1 := b1.below hb b1.lt
  have p0 := d0.cell 0
  have p1 := d0.cell 1
  have p2 := d0.cell 2
  have s0 := d1.cell 0
  have s1 := d1.cell 1
  have s2 := d1.cell 2
  have HB4 := Lib.hid (hB3.trans (hb.mono hB3.size))
  have HST := Lib.hid (sametrace_any j b A1 A2 cl c1 c2 hl64 w4 (HP1.out.below hb) hp2)
  clear hB3 b0 b1 d0 d1 hb ho2 hp2 HB3 HCN
  go_wp2_with fail
  refine HST.out.mono ?_
  rintro e w5 ⟨rfl, hb⟩
  have HB5 := Lib.hid (HB4.out.trans (hb.mono HB4.out.size))
  clear hb
  go_wp2_with fail
  refine (awake_any _).mono ?_
  rintro e w6 ⟨rfl, hb⟩
  have HB6 := Lib.hid (HB5.out.trans (hb.mono HB5.out.size))
  clear hb
  go_wp2_with fail
  go_ret
  exact ⟨rfl, HB6.out⟩
theorem law_writes (j : ByteArray) (hj : j.size ≤ 9223372036854775807) (b : UInt8) (A : Option Addr) (l : List Geo.XY) (c : Nat) (hcap : l.length ≤ c) (w : World) (hP : Pts w A l) (hE : EnvT w) :
    Calls Tryz.prog 3 #[.agg #[.string j, .int .u8 b.toNat, .slice A l.length c]] w fun e w' => e = .returned (.bool true) ∧ Below w.heap.size w w' := by
  cases hv : validB l with
  | false => exact writes_no j b A l c 10 rfl w (fun w1 hb => dformat_inv j b A l c hv w1 (hP.below hb)) (fun w1 hb => rformat_inv j b A l c hv w1 (hP.below hb))
  | true =>
    cases hx : (Tx.jobB (Tx.byt j) && Tx.sideB b) with
    | false => exact writes_no j b A l c 3 rfl w (fun w1 hb => dformat_bad j b A l c hv hx w1 (hP.below hb)) (fun w1 hb => rformat_bad j hj b A l c hv hx w1 (hP.below hb))
    | true =>
      rw [Bool.and_eq_true] at hx
      exact writes_ok j b A l c hcap hv hx.1 hx.2 w hP hE
end Go.Proofs.YthabpgclnbmnpaaGreatDoor
