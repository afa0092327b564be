/- Plain: how many bits a number has, counted in its bytes side by side. -/
import Derived.Test.YtghbipipehglfaaDoorP6
namespace Go.Proofs.YtghbipipehglfaaDoor.Pl

theorem and_split (a b r s : Nat) (hr : r < 256) (hs : s < 256) : (256 * a + r) &&& (256 * b + s) = 256 * (a &&& b) + (r &&& s) := by
  have e : ∀ x y : Nat, y < 256 → ∀ j, (256 * x + y).testBit j = if j < 8 then y.testBit j else x.testBit (j - 8) := fun x y hy j => by
    have := Nat.testBit_two_pow_mul_add x (i := 8) (b := y) (by simpa using hy) j
    simpa using this
  refine Nat.eq_of_testBit_eq fun j => ?_
  rw [Nat.testBit_and, e a r hr, e b s hs, e _ _ (Nat.lt_of_le_of_lt Nat.and_le_left hr)]
  split <;> rw [Nat.testBit_and]
/-- n bytes c -/
def mk (c : Nat) : Nat → Nat
  | 0 => 0
  | n + 1 => 256 * mk c n + c
theorem mk_succ (c n : Nat) : mk c (n + 1) = 256 * mk c n + c := rfl
def t1 (M x : Nat) : Nat := (x / 2 &&& M) + (x &&& M)
def t2 (M x : Nat) : Nat := (x / 4 &&& M) + (x &&& M)
def t3 (M x : Nat) : Nat := (x / 16 + x) &&& M
def g1 (b : Nat) : Nat := (b / 2 &&& 85) + (b &&& 85)
def g2 (b : Nat) : Nat := (b / 4 &&& 51) + (b &&& 51)
theorem g1_lt : ∀ b, b < 256 → g1 b < 256 := by decide +kernel
theorem g2_ok : ∀ b, b < 256 → g2 (g1 b) < 256 ∧ g2 (g1 b) % 16 ≤ 4 ∧ g2 (g1 b) / 16 ≤ 4 := by decide +kernel
theorem g3_ok : ∀ b, b < 256 → (g2 (g1 b) / 16 + g2 (g1 b)) &&& 15 = (els b 8).length := by decide +kernel
theorem sh1 : ∀ b, b < 256 → ∀ r, r < 2 → b / 2 + 128 * r < 256 ∧ (b / 2 + 128 * r) &&& 85 = b / 2 &&& 85 := by decide +kernel
theorem sh2 : ∀ b, b < 256 → ∀ r, r < 4 → b / 4 + 64 * r < 256 ∧ (b / 4 + 64 * r) &&& 51 = b / 4 &&& 51 := by decide +kernel
theorem sh3 : ∀ b, b < 256 → ∀ r, r < 5 → b / 16 ≤ 4 → b % 16 ≤ 4 → b / 16 + 16 * r + b < 256 ∧ (b / 16 + 16 * r + b) &&& 15 = (b / 16 + b) &&& 15 := by decide +kernel
theorem t1_step (n q b : Nat) (hb : b < 256) : t1 (mk 85 (n + 1)) (256 * q + b) = 256 * t1 (mk 85 n) q + g1 b := by
  obtain ⟨h1, h2⟩ := sh1 b hb (q % 2) (by omega)
  unfold t1 g1
  rw [mk_succ, show (256 * q + b) / 2 = 256 * (q / 2) + (b / 2 + 128 * (q % 2)) by omega, and_split _ _ _ _ h1 (by omega), and_split _ _ _ _ hb (by omega), h2]
  omega
theorem t2_step (n q b : Nat) (hb : b < 256) : t2 (mk 51 (n + 1)) (256 * q + b) = 256 * t2 (mk 51 n) q + g2 b := by
  obtain ⟨h1, h2⟩ := sh2 b hb (q % 4) (by omega)
  unfold t2 g2
  rw [mk_succ, show (256 * q + b) / 4 = 256 * (q / 4) + (b / 4 + 64 * (q % 4)) by omega, and_split _ _ _ _ h1 (by omega), and_split _ _ _ _ hb (by omega), h2]
  omega
theorem t3_step (n q b : Nat) (hb : b < 256) (h4 : b / 16 ≤ 4) (h5 : b % 16 ≤ 4) (hq : q % 16 ≤ 4) : t3 (mk 15 (n + 1)) (256 * q + b) = 256 * t3 (mk 15 n) q + ((b / 16 + b) &&& 15) := by
  obtain ⟨h1, h2⟩ := sh3 b hb (q % 16) (by omega) h4 h5
  unfold t3
  rw [mk_succ, show (256 * q + b) / 16 + (256 * q + b) = 256 * (q / 16 + q) + (b / 16 + 16 * (q % 16) + b) by omega, and_split _ _ _ _ h1 (by omega), h2]
def t12 (n x : Nat) : Nat := t2 (mk 51 n) (t1 (mk 85 n) x)
theorem t12_step (n q b : Nat) (hb : b < 256) : t12 (n + 1) (256 * q + b) = 256 * t12 n q + g2 (g1 b) := by
  unfold t12; rw [t1_step n q b hb, t2_step _ _ _ (g1_lt b hb)]
theorem t12_low : ∀ (n q : Nat), q < 256 ^ n → t12 n q % 16 ≤ 4
  | 0, q, h => by obtain rfl : q = 0 := by omega
                  decide
  | n + 1, q, h => by
    have e : q = 256 * (q / 256) + q % 256 := by omega
    rw [e, t12_step n _ _ (by omega)]
    have := (g2_ok (q % 256) (by omega)).2.1
    omega
/-- the bits of each byte -/
def pcs : Nat → Nat → Nat
  | 0, _ => 0
  | n + 1, x => 256 * pcs n (x / 256) + (els (x % 256) 8).length
theorem t123 : ∀ (n x : Nat), x < 256 ^ n → t3 (mk 15 n) (t12 n x) = pcs n x
  | 0, x, h => by obtain rfl : x = 0 := by omega
                  decide
  | n + 1, x, h => by
    have e : x = 256 * (x / 256) + x % 256 := by omega
    have hq : x / 256 < 256 ^ n := by rw [Nat.pow_succ] at h; omega
    obtain ⟨k1, k2, k3⟩ := g2_ok (x % 256) (by omega)
    conv => lhs; rw [e, t12_step n _ _ (by omega)]
    rw [t3_step n _ _ k1 k3 k2 (t12_low n _ hq), t123 n _ hq, g3_ok _ (by omega)]
    rfl
theorem els_split (q b n : Nat) (hb : b < 256) : (els (256 * q + b) (8 + n)).length = (els b 8).length + (els q n).length := by
  have e : ∀ j, (256 * q + b).testBit j = if j < 8 then b.testBit j else q.testBit (j - 8) := fun j => by
    have := Nat.testBit_two_pow_mul_add q (i := 8) (b := b) (by simpa using hb) j
    simpa using this
  unfold els
  rw [List.range_add, List.filter_append, List.length_append, List.filter_map, List.length_map]
  congr 2
  · refine List.filter_congr fun i hi => ?_
    rw [e, if_pos (by simpa using hi)]
  · refine List.filter_congr fun i hi => ?_
    show (256 * q + b).testBit (8 + i) = _
    rw [e, if_neg (by omega), show 8 + i - 8 = i by omega]
theorem els8 (x n : Nat) : (els x (8 + n)).length = (els (x % 256) 8).length + (els (x / 256) n).length := by
  have := els_split (x / 256) (x % 256) n (by omega)
  rwa [show 256 * (x / 256) + x % 256 = x by omega] at this
theorem els0 (n : Nat) : (els 0 n).length = 0 := by
  unfold els
  rw [List.length_eq_zero_iff, List.filter_eq_nil_iff]
  simp
theorem pc_end (x : Nat) (hx : x < 2 ^ 40) : ∃ y, t3 (mk 15 8) (t2 (mk 51 8) (t1 (mk 85 8) x)) = y ∧ y < 2 ^ 40 ∧
    ∀ a b c, a = y + y / 256 → b = a + a / 65536 → c = b + b / 4294967296 → c % 128 = cnt x ∧ c < 2 ^ 42 := by
  refine ⟨pcs 8 x, t123 8 x (by omega), ?_⟩
  have hc : cnt x = (els (x % 256) 8).length + ((els (x / 256 % 256) 8).length + ((els (x / 256 / 256 % 256) 8).length + ((els (x / 256 / 256 / 256 % 256) 8).length + ((els (x / 256 / 256 / 256 / 256 % 256) 8).length + (els (x / 256 / 256 / 256 / 256 / 256) 24).length)))) := by
    unfold cnt
    rw [els8 x 56, els8 _ 48, els8 _ 40, els8 _ 32, els8 _ 24]
  have z : x / 256 / 256 / 256 / 256 / 256 = 0 := by omega
  rw [z, els0] at hc
  have z8 : (els 0 8).length = 0 := els0 8
  have hp : pcs 8 x = 256 * (256 * (256 * (256 * (els (x / 256 / 256 / 256 / 256 % 256) 8).length + (els (x / 256 / 256 / 256 % 256) 8).length) + (els (x / 256 / 256 % 256) 8).length) + (els (x / 256 % 256) 8).length) + (els (x % 256) 8).length := by
    simp only [pcs, z, Nat.zero_mod, Nat.zero_div, z8]
    omega
  have l0 := els_len (x % 256) 8
  have l1 := els_len (x / 256 % 256) 8
  have l2 := els_len (x / 256 / 256 % 256) 8
  have l3 := els_len (x / 256 / 256 / 256 % 256) 8
  have l4 := els_len (x / 256 / 256 / 256 / 256 % 256) 8
  rw [hp, hc]
  generalize (els (x % 256) 8).length = c0 at *
  generalize (els (x / 256 % 256) 8).length = c1 at *
  generalize (els (x / 256 / 256 % 256) 8).length = c2 at *
  generalize (els (x / 256 / 256 / 256 % 256) 8).length = c3 at *
  generalize (els (x / 256 / 256 / 256 / 256 % 256) 8).length = c4 at *
  clear hc hp z z8 hx
  refine ⟨by omega, ?_⟩
  intro a b c ha hb hc
  have ha' : a = (c0 + c1) + 256 * (c1 + c2) + 65536 * (c2 + c3) + 16777216 * (c3 + c4) + 4294967296 * c4 := by omega
  clear ha
  have hb' : b = (c0 + c1 + c2 + c3) + 256 * (c1 + c2 + c3 + c4) + 65536 * (c2 + c3 + c4) + 16777216 * (c3 + c4) + 4294967296 * c4 := by omega
  clear hb ha'
  have hc' : c = (c0 + c1 + c2 + c3 + c4) + 256 * (c1 + c2 + c3 + c4) + 65536 * (c2 + c3 + c4) + 16777216 * (c3 + c4) + 4294967296 * c4 := by omega
  omega
end Go.Proofs.YtghbipipehglfaaDoor.Pl
