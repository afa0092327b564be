/- LastWider. -/
import Derived.Test.YtghbipipehglfaaA15
import Derived.Test.YtghbipipehglfaaA6
import Derived.Test.YtghbipipehglfaaA13
import Derived.Test.YtghbipipehglfaaP4
import Derived.OpenShut
namespace Go.Proofs.Ytghbipipehglfaa
open Go.RowKit Go.Shelf

theorem fitV_ok {s : Pl.Sz} {h : Pl.Hd} (hc : Pl.cp s h = 0) : fitV s h = Pl.fit s h := if_pos hc
theorem fitV_no {s : Pl.Sz} {h : Pl.Hd} (hc : Pl.cp s h ≠ 0) : fitV s h = false := if_neg hc
theorem szA_bd (s : Pl.Sz) {k : Nat} (hk : k < 5) (v : Int) : (szA s).setIfInBounds (11 + k) (.int .i64 v) = szA { s with bd := fun i => if i = k then v else s.bd i } :=
  five (p := fun k => (szA s).setIfInBounds (11 + k) (.int .i64 v) = szA { s with bd := fun i => if i = k then v else s.bd i }) hk rfl rfl rfl rfl rfl
theorem szA_tot (s : Pl.Sz) (v : Int) : (szA s).setIfInBounds 16 (.int .i64 v) = szA { s with tot := v } := rfl

theorem wid0 {w : World} {g : Nat} {t : TypeId} {s : Pl.Sz} (b : Blk w g t (szA s)) {k : Nat} (hk : k < 5) (n : Int) : Blk (w.setCell ⟨g, 1 + k, none⟩ (.int .i64 (max (s.fr k - n) 0))) g t (szA (Pl.wid s 0 k n)) := by
  have := b.set_ (1 + k) (.int .i64 (max (s.fr k - n) 0))
  rw [szA_fr _ hk] at this
  exact this
theorem wid1 {w : World} {g : Nat} {t : TypeId} {s : Pl.Sz} (b : Blk w g t (szA s)) {k : Nat} (hk : k < 5) (n : Int) : Blk (w.setCell ⟨g, 6 + k, none⟩ (.int .i64 (min (s.up k + n) 3000))) g t (szA (Pl.wid s 1 k n)) := by
  have := b.set_ (6 + k) (.int .i64 (min (s.up k + n) 3000))
  rw [szA_up _ hk] at this
  exact this
theorem wid2 {w : World} {g : Nat} {t : TypeId} {s : Pl.Sz} (b : Blk w g t (szA s)) {k : Nat} (hk : k < 5) (n : Int) : Blk (w.setCell ⟨g, 11 + k, none⟩ (.int .i64 (min (s.bd k + n) 100))) g t (szA (Pl.wid s 2 k n)) := by
  have := b.set_ (11 + k) (.int .i64 (min (s.bd k + n) 100))
  rw [szA_bd _ hk] at this
  exact this
theorem wid3 {w : World} {g : Nat} {t : TypeId} {s : Pl.Sz} (b : Blk w g t (szA s)) (k : Nat) (n : Int) : Blk (w.setCell ⟨g, 16, none⟩ (.int .i64 (min (s.tot + n) 500))) g t (szA (Pl.wid s 3 k n)) := by
  have := b.set_ 16 (.int .i64 (min (s.tot + n) 500))
  rw [szA_tot] at this
  exact this

set_option maxRecDepth 100000 in
set_option maxHeartbeats 4000000 in
theorem wider_no (s : Pl.Sz) (h : Pl.Hd) (m n : Nat) (hc : Pl.cp s h = 30 ∨ Pl.cp s h = 31) (w : World) :
    Calls Try.prog 6 #[.agg (szA s), .agg (hdA h), .int .u8 m, .int .u8 n] w fun e w' => e = .returned (.bool true) ∧ Below w.heap.size w w' := by
  have HF := Lib.hid (dfits_any s h)
  have hfv : fitV s h = false := fitV_no (by rcases hc with e | e <;> rw [e] <;> decide)
  rw [hfv] at HF
  have hB := ((Below.refl w.heap.size w).alloc (Nat.le_refl _) (.cells (szA s) 24)).alloc (by simp) (.cells (hdA h) 26)
  have bS := (Blk.new w 24 (szA s)).alloc (.cells (hdA h) 26)
  have bH := Blk.new (w.alloc (.cells (szA s) 24)) 26 (hdA h)
  simp only [World.size_alloc] at bH
  rcases hc with e | e
  all_goals
    rw [e] at HF
    clear e hfv
    go_enter Try.func6, Try.ntmps6
    go_wp2_with (first | refine ld_size (by assumption) rfl _ rfl rfl ?_ | refine ld_head (by assumption) rfl _ rfl rfl ?_)
    refine (HF.out _).mono ?_
    rintro e w1 ⟨rfl, hb1⟩
    have hB1 := hB.trans (hb1.mono hB.size)
    clear bS bH hb1 hB
    go_wp2_with fail
    refine (awake_any _).mono ?_
    rintro e wa ⟨rfl, hba⟩
    go_wp2
    go_ret
    exact ⟨rfl, hB1.trans (hba.mono hB1.size)⟩

set_option maxRecDepth 100000 in
set_option maxHeartbeats 8000000 in
theorem wider_yes (s : Pl.Sz) (h : Pl.Hd) (m n : Nat) (hm : m ≤ 255) (hn : n ≤ 255) (hc : Pl.cp s h = 0) (w : World) :
    Calls Try.prog 6 #[.agg (szA s), .agg (hdA h), .int .u8 m, .int .u8 n] w fun e w' => e = .returned (.bool true) ∧ Below w.heap.size w w' := by
  have HF := Lib.hid (dfits_any s h)
  rw [fitV_ok hc, hc] at HF
  obtain ⟨hs, hh⟩ := Pl.cp_ok.1 hc
  obtain ⟨k, hk⟩ : ∃ k, k = m % 5 := ⟨_, rfl⟩
  have hk5 : k < 5 := by omega
  have e3 : (m : Int) % 5 = (k : Int) := by omega
  have hW : ∀ c, Hid (∀ w, Calls Try.prog 11 #[.agg (szA (Pl.wid s c k n)), .agg (hdA h)] w fun e w' => e = .returned (.tuple #[.bool (Pl.fit (Pl.wid s c k n) h), .int .i64 0]) ∧ Below w.heap.size w w') := fun c => Lib.hid (by
    have hv := Pl.wid_valid hs c k hk5 (n := n) (by omega)
    have hc2 : Pl.cp (Pl.wid s c k n) h = 0 := Pl.cp_ok.2 ⟨hv, hh⟩
    have := dfits_any (Pl.wid s c k n) h
    rw [fitV_ok hc2, hc2] at this
    exact this)
  have hfit : ∀ c, Hid (Pl.fit s h = true → Pl.fit (Pl.wid s c k n) h = true) := fun c => Lib.hid (Pl.wid_fit hs hh c k hk5 (by omega))
  obtain ⟨a1, a2, a3, a4, a5⟩ := (Pl.vsz_true.1 hs).1 k hk5
  obtain ⟨t1, t2⟩ := (Pl.vsz_true.1 hs).2.2
  have hB := ((Below.refl w.heap.size w).alloc (Nat.le_refl _) (.cells (szA s) 24)).alloc (by simp) (.cells (hdA h) 26)
  have bS := (Blk.new w 24 (szA s)).alloc (.cells (hdA h) 26)
  have bH := Blk.new (w.alloc (.cells (szA s) 24)) 26 (hdA h)
  simp only [World.size_alloc] at bH
  have hS := bS.lt
  have hH := bH.lt
  have hsw : (m : Int) / 5 % 4 = 0 ∨ (m : Int) / 5 % 4 = 1 ∨ (m : Int) / 5 % 4 = 2 ∨ (m : Int) / 5 % 4 = 3 := by omega
  clear hk hs hh hc
  obtain ⟨x, hx⟩ : ∃ x, Pl.fit s h = x := ⟨_, rfl⟩
  rw [hx] at HF hfit
  clear hx
  rcases hsw with e5 | e5 | e5 | e5
  all_goals
    go_enter Try.func6, Try.ntmps6
    go_wp2_with (first | refine ld_size (by assumption) rfl _ rfl rfl ?_ | refine ld_head (by assumption) rfl _ rfl rfl ?_)
    refine (HF.out _).mono ?_
    rintro e w1 ⟨rfl, hb1⟩
    have hB1 := (hB.trans (hb1.mono hB.size)).alloc (by have := (hB.trans (hb1.mono hB.size)).size; exact this) (.cells (szA Pl.zsz) 24)
    have bS1 := bS.below hb1 hS
    have bH1 := (bH.below hb1 hH).alloc (.cells (szA Pl.zsz) 24)
    have bA := Blk.new w1 24 (szA Pl.zsz)
    have hz1 : w.heap.size + 1 < w1.heap.size := Nat.lt_of_lt_of_le hH hb1.size
    clear bS bH hS hH hb1 hB
  · have HW := hW 0
    have HI := hfit 0
    clear hW hfit
    generalize Pl.fit (Pl.wid s 0 k n) h = y at *
    go_wp2_with (first | refine ld_size bS1 rfl _ rfl rfl ?_ | (refine st_size (s := s) bA rfl rfl _ _ rfl rfl rfl ?_; intro w2 bA2 hO; have bH2 := bH1.only hO (by omega); have hB2 := hB1.trans (hO.below (B := w.heap.size) (by omega)); have q1 := bA2.fr hk5; have r1 := bA2.frozen (1 + k); clear hO bH1 hB1 bA) | refine ld_size (wid0 bA2 hk5 n) rfl _ rfl rfl ?_ | refine ld_head (bH2.far (by simp; omega) _) rfl _ rfl rfl ?_)
    refine (HW.out _).mono ?_
    rintro e w3 ⟨rfl, hb3⟩
    have hB2' := hB2.setCell (p := ⟨w1.heap.size, 1 + k, none⟩) (by simp; omega) (.int .i64 (max (s.fr k - n) 0))
    have hB3 := hB2'.trans (hb3.mono hB2'.size)
    clear q1 r1 bH2 bA2
    have hy : (x = false ∧ y = false) ∨ (x = false ∧ y = true) ∨ (x = true ∧ y = true) := by
      cases x with
      | false => cases y <;> simp
      | true => exact .inr (.inr ⟨rfl, HI.out rfl⟩)
    clear HI
    rcases hy with ⟨rfl, rfl⟩ | ⟨rfl, rfl⟩ | ⟨rfl, rfl⟩
    all_goals
      go_wp2_with fail
      refine (awake_any _).mono ?_
      rintro e wa ⟨rfl, hba⟩
      go_wp2
      go_ret
      exact ⟨rfl, hB3.trans (hba.mono hB3.size)⟩
  · have HW := hW 1
    have HI := hfit 1
    clear hW hfit
    generalize Pl.fit (Pl.wid s 1 k n) h = y at *
    go_wp2_with (first | refine ld_size bS1 rfl _ rfl rfl ?_ | (refine st_size (s := s) bA rfl rfl _ _ rfl rfl rfl ?_; intro w2 bA2 hO; have bH2 := bH1.only hO (by omega); have hB2 := hB1.trans (hO.below (B := w.heap.size) (by omega)); have q1 := bA2.up hk5; have r1 := bA2.frozen (6 + k); clear hO bH1 hB1 bA) | refine ld_size (wid1 bA2 hk5 n) rfl _ rfl rfl ?_ | refine ld_head (bH2.far (by simp; omega) _) rfl _ rfl rfl ?_)
    refine (HW.out _).mono ?_
    rintro e w3 ⟨rfl, hb3⟩
    have hB2' := hB2.setCell (p := ⟨w1.heap.size, 6 + k, none⟩) (by simp; omega) (.int .i64 (min (s.up k + n) 3000))
    have hB3 := hB2'.trans (hb3.mono hB2'.size)
    clear q1 r1 bH2 bA2
    have hy : (x = false ∧ y = false) ∨ (x = false ∧ y = true) ∨ (x = true ∧ y = true) := by
      cases x with
      | false => cases y <;> simp
      | true => exact .inr (.inr ⟨rfl, HI.out rfl⟩)
    clear HI
    rcases hy with ⟨rfl, rfl⟩ | ⟨rfl, rfl⟩ | ⟨rfl, rfl⟩
    all_goals
      go_wp2_with fail
      refine (awake_any _).mono ?_
      rintro e wa ⟨rfl, hba⟩
      go_wp2
      go_ret
      exact ⟨rfl, hB3.trans (hba.mono hB3.size)⟩
  · have HW := hW 2
    have HI := hfit 2
    clear hW hfit
    generalize Pl.fit (Pl.wid s 2 k n) h = y at *
    go_wp2_with (first | refine ld_size bS1 rfl _ rfl rfl ?_ | (refine st_size (s := s) bA rfl rfl _ _ rfl rfl rfl ?_; intro w2 bA2 hO; have bH2 := bH1.only hO (by omega); have hB2 := hB1.trans (hO.below (B := w.heap.size) (by omega)); have q1 := bA2.bd hk5; have r1 := bA2.frozen (11 + k); clear hO bH1 hB1 bA) | refine ld_size (wid2 bA2 hk5 n) rfl _ rfl rfl ?_ | refine ld_head (bH2.far (by simp; omega) _) rfl _ rfl rfl ?_)
    refine (HW.out _).mono ?_
    rintro e w3 ⟨rfl, hb3⟩
    have hB2' := hB2.setCell (p := ⟨w1.heap.size, 11 + k, none⟩) (by simp; omega) (.int .i64 (min (s.bd k + n) 100))
    have hB3 := hB2'.trans (hb3.mono hB2'.size)
    clear q1 r1 bH2 bA2
    have hy : (x = false ∧ y = false) ∨ (x = false ∧ y = true) ∨ (x = true ∧ y = true) := by
      cases x with
      | false => cases y <;> simp
      | true => exact .inr (.inr ⟨rfl, HI.out rfl⟩)
    clear HI
    rcases hy with ⟨rfl, rfl⟩ | ⟨rfl, rfl⟩ | ⟨rfl, rfl⟩
    all_goals
      go_wp2_with fail
      refine (awake_any _).mono ?_
      rintro e wa ⟨rfl, hba⟩
      go_wp2
      go_ret
      exact ⟨rfl, hB3.trans (hba.mono hB3.size)⟩
  · have HW := hW 3
    have HI := hfit 3
    clear hW hfit
    generalize Pl.fit (Pl.wid s 3 k n) h = y at *
    go_wp2_with (first | refine ld_size bS1 rfl _ rfl rfl ?_ | (refine st_size (s := s) bA rfl rfl _ _ rfl rfl rfl ?_; intro w2 bA2 hO; have bH2 := bH1.only hO (by omega); have hB2 := hB1.trans (hO.below (B := w.heap.size) (by omega)); have q1 := bA2.tot; have r1 := bA2.frozen (16); clear hO bH1 hB1 bA) | refine ld_size (wid3 bA2 k n) rfl _ rfl rfl ?_ | refine ld_head (bH2.far (by simp; omega) _) rfl _ rfl rfl ?_)
    refine (HW.out _).mono ?_
    rintro e w3 ⟨rfl, hb3⟩
    have hB2' := hB2.setCell (p := ⟨w1.heap.size, 16, none⟩) (by simp; omega) (.int .i64 (min (s.tot + n) 500))
    have hB3 := hB2'.trans (hb3.mono hB2'.size)
    clear q1 r1 bH2 bA2
    have hy : (x = false ∧ y = false) ∨ (x = false ∧ y = true) ∨ (x = true ∧ y = true) := by
      cases x with
      | false => cases y <;> simp
      | true => exact .inr (.inr ⟨rfl, HI.out rfl⟩)
    clear HI
    rcases hy with ⟨rfl, rfl⟩ | ⟨rfl, rfl⟩ | ⟨rfl, rfl⟩
    all_goals
      go_wp2_with fail
      refine (awake_any _).mono ?_
      rintro e wa ⟨rfl, hba⟩
      go_wp2
      go_ret
      exact ⟨rfl, hB3.trans (hba.mono hB3.size)⟩

theorem law_wider (s : Pl.Sz) (h : Pl.Hd) (a b : Int) (ha : (Lit.int .u8 a).wf = true) (hb : (Lit.int .u8 b).wf = true) (w : World) :
    Calls Try.prog 6 #[.agg (szA s), .agg (hdA h), .int .u8 a, .int .u8 b] w fun e w' => e = .returned (.bool true) ∧ Below w.heap.size w w' := by
  obtain ⟨a1, a2⟩ := bounds_u8 ha
  obtain ⟨b1, b2⟩ := bounds_u8 hb
  obtain ⟨m, rfl⟩ : ∃ m : Nat, a = m := ⟨a.toNat, by omega⟩
  obtain ⟨n, rfl⟩ : ∃ n : Nat, b = n := ⟨b.toNat, by omega⟩
  rcases cp3 s h with hc | hc | hc
  · exact wider_yes s h m n (by omega) (by omega) hc w
  · exact wider_no s h m n (.inl hc) w
  · exact wider_no s h m n (.inr hc) w
end Go.Proofs.Ytghbipipehglfaa
