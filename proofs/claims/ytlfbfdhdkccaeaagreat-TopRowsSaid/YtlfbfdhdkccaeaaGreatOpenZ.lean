/- Arguments as they came in: an empty slice of runs that is nil has no room. -/
import Derived.Test.YtlfbfdhdkccaeaaGreatOpen
import Derived.Test.YtlfbfdhdkccaeaaGreatF3
namespace Go.Proofs.YtlfbfdhdkccaeaaGreat
open Go.ChangeShapes Go.WideShapes Go.ChangeAt Go.RowKit Go.Deep Go.Joins
/-- a slice of runs that is nil has no room -/
def Nz (W : World) (A : Option Addr) (m : Nat) : Prop := ∀ b off j, A = some ⟨b, off, none⟩ → j < m → b < W.heap.size → ∀ c, W.cell? ⟨b, off + j, none⟩ = some (.slice none 0 c) → c = 0
theorem Nz.below {W W' : World} {A : Option Addr} {m : Nat} (h : Nz W A m) (hb : Below W.heap.size W W') (hA : ∀ b off, A = some ⟨b, off, none⟩ → b < W.heap.size) : Nz W' A m := fun b off j e hj _ c hc => by
  have hlt := hA b off e
  exact h b off j e hj hlt c (by rw [← hb.cell (p := ⟨b, off + j, none⟩) hlt]; exact hc)
theorem open_nz {H : Type} {enc : TypeId × Value → H} {W : World} {a0 : Option Addr} {len cap : Nat} {d : DataW H} {p : List MemPlace} (h : DataW.Trod enc Tryz.prog W 0 (fun _ => true) true 38 (.slice a0 len cap) d p) : Nz W a0 len := by
  intro b off j e hj _ c hc0
  subst e
  obtain ⟨fuel, hf⟩ := h
  have hf' : DataW.trod enc Tryz.prog W 0 (fun _ => true) true fuel 38 [.slice (some ⟨b, off, none⟩) len cap] = some (d, p) := by simpa [Value.cells] using hf
  rcases open_slice Tryz.underlying38 hf' with ⟨hcs, _⟩ | ⟨a, len', cap', m, n, D, P, hcs, hb, hl, hm, hmm, hx, hc⟩
  · simp at hcs
  · simp at hcs
    obtain ⟨rfl, rfl, rfl⟩ := hcs
    have hmm' : m = cap := by simpa using hmm
    rw [cells89] at hc
    obtain ⟨cs', h1, h2⟩ := hc j (by omega)
    rw [Nat.mul_one] at h1
    have hl1 := (World.cells?_some h1).2.1
    match cs', hl1 with
    | [c1], _ =>
      have h3 := (World.cells?_some h1).2.2 0 (by omega)
      rw [show ((⟨b, off, none⟩ : Addr).add j).add 0 = (⟨b, off + j, none⟩ : Addr) from by cases j <;> simp [Addr.add]] at h3
      rw [hc0] at h3
      have e1 : c1 = .slice none 0 c := by simpa using h3.symm
      subst e1
      rcases open_slice Tryz.underlying63 h2 with ⟨hcs, _⟩ | ⟨a', len', cap', m', n', D', P', hcs, _⟩
      · simpa using hcs
      · simp at hcs
theorem nz_of_rws {to ti : TypeId} {α : Type} {en : α → List Value} {k : Nat} {W : World} {B m c : Nat} {A : Option Addr} {f : Nat → Value} {rows : List (List α)} (h : Rws to ti en k W B (.slice A m c) f rows) : Nz W A m := by
  intro b off j e hj _ c' hc0
  have hm := h.len
  have hj' : j < rows.length := by omega
  rcases h.own.2 with ⟨e2, h0⟩ | ⟨g, cap, cur, e2, _⟩
  · omega
  · cases e2
    cases e
    have c1 := h.own.cellAt j (by omega)
    simp only [Nat.zero_add] at hc0 c1
    rw [c1, List.getElem?_map, List.getElem?_range hj'] at hc0
    have e3 : f j = .slice none 0 c' := by simpa using hc0
    rcases (h.row j hj').2 with ⟨e4, _⟩ | ⟨g2, cap2, cur2, e4, _⟩
    · rw [e3] at e4; cases e4; rfl
    · rw [e3] at e4; cases e4
end Go.Proofs.YtlfbfdhdkccaeaaGreat

