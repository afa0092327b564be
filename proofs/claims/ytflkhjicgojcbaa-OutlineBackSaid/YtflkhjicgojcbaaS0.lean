import Derived.Test.YtflkhjicgojcbaaH6
namespace Go.Proofs.Ytflkhjicgojcbaa
open Go.RowKit Go.Shelf

def outU (g : List Geo.XY) (k : Nat) : Int := (Geo.X g ((k + 1) % g.length)).2 - (Geo.X g k).2
def outV (g : List Geo.XY) (k : Nat) : Int := (Geo.X g k).1 - (Geo.X g ((k + 1) % g.length)).1
/-- how far side k of the groove is from the lens -/
def gapAt (l g : List Geo.XY) (k : Nat) : Int := rchK g (outU g k) (outV g k) g.length - rchK l (outU g k) (outV g k) l.length
def NearAt (l g : List Geo.XY) (play : Int) (k : Nat) : Prop := gapAt l g k * gapAt l g k ≤ play * play * (outU g k * outU g k + outV g k * outV g k)
instance (l g : List Geo.XY) (play : Int) (k : Nat) : Decidable (NearAt l g play k) := by unfold NearAt; infer_instance
def nearB (l g : List Geo.XY) (play : Int) : Bool := decide (∀ k, k < g.length → NearAt l g play k)
def nrSt (l g : List Geo.XY) (play : Int) (pre : List Nat) : Bool := pre.foldl (fun s k => s && decide (NearAt l g play k)) true
theorem nrSt_snoc (l g : List Geo.XY) (play : Int) (pre : List Nat) (k : Nat) : nrSt l g play (pre ++ [k]) = (nrSt l g play pre && decide (NearAt l g play k)) := by
  unfold nrSt; rw [List.foldl_append]; rfl
theorem nrSt_iff (l g : List Geo.XY) (play : Int) (k : Nat) : nrSt l g play (List.range k) = true ↔ ∀ i, i < k → NearAt l g play i := by
  induction k with
  | zero => simp [nrSt]
  | succ k ih =>
    rw [List.range_succ, nrSt_snoc, Bool.and_eq_true, ih, decide_eq_true_eq]
    constructor
    · rintro ⟨h1, h2⟩ i hi
      by_cases e : i = k
      · subst e; exact h2
      · exact h1 i (by omega)
    · intro h
      exact ⟨fun i hi => h i (by omega), h k (by omega)⟩
theorem nrSt_all (l g : List Geo.XY) (play : Int) : nrSt l g play (List.range g.length) = nearB l g play := by
  rw [Bool.eq_iff_iff, nrSt_iff]
  unfold nearB
  rw [decide_eq_true_eq]
theorem nrSt_stop (l g : List Geo.XY) (play : Int) (k : Nat) (hk : k ≤ g.length) (h : nrSt l g play (List.range k) = false) : nearB l g play = false := by
  rw [← nrSt_all]
  cases hh : nrSt l g play (List.range g.length) with
  | false => rfl
  | true =>
    have h1 := (nrSt_iff l g play g.length).1 hh
    have h2 := (nrSt_iff l g play k).2 (fun i hi => h1 i (by omega))
    rw [h] at h2
    cases h2
theorem out_bd {g : List Geo.XY} (h : AllIn g) (k : Nat) : (-10000 ≤ outU g k ∧ outU g k ≤ 10000) ∧ (-10000 ≤ outV g k ∧ outV g k ≤ 10000) := by
  obtain ⟨a1, a2, a3, a4⟩ := in_all h k
  obtain ⟨a5, a6, a7, a8⟩ := in_all h ((k + 1) % g.length)
  unfold outU outV
  omega
theorem gap_bd {l g : List Geo.XY} (hl : AllIn l) (hg : AllIn g) (k : Nat) : -200000000 ≤ gapAt l g k ∧ gapAt l g k ≤ 200000000 := by
  obtain ⟨⟨u1, u2⟩, v1, v2⟩ := out_bd hg k
  have := rchK_bd hl u1 u2 v1 v2 l.length
  have := rchK_bd hg u1 u2 v1 v2 g.length
  unfold gapAt
  omega

theorem reach_r (A : Option Addr) (l : List Geo.XY) (c : Nat) (u v : Int) (w : World) (hr : Pts w A l) (hv : Valid l) (u1 : -10000 ≤ u) (u2 : u ≤ 10000) (v1 : -10000 ≤ v) (v2 : v ≤ 10000) (r : Int) (h : rchK l u v l.length = r) :
    Calls Try.prog 80 #[.slice A l.length c, .agg #[.int .i64 u, .int .i64 v]] w fun e w' => e = .returned (.int .i64 r) ∧ Below w.heap.size w w' := by
  subst h; exact reach_any A l c u v w hr (by have := hv.1; omega) hv.2.1 hv.allin u1 u2 v1 v2

end Go.Proofs.Ytflkhjicgojcbaa
