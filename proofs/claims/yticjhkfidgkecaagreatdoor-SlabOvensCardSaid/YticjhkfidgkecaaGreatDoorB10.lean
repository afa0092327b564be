import Derived.Test.YticjhkfidgkecaaGreatDoorB9
namespace Go.Proofs.YticjhkfidgkecaaGreatDoor
open Go.RowKit Pl

theorem RdLP.get {p : Nat → Prop} {w : World} : ∀ {ps : List Tree} {b o : Nat}, RdLP p w ps (some ⟨b, o, none⟩) → ∀ k (hk : k < ps.length), RdTP p w ps[k] b (o + k * 7)
  | t :: ts, b, o, h, 0, _ => by
    obtain ⟨b', o', he, _, h1, _⟩ := h
    cases he
    simpa using h1
  | t :: ts, b, o, h, k + 1, hk => by
    obtain ⟨b', o', he, _, _, h2⟩ := h
    cases he
    have := RdLP.get h2 k (by simpa using hk)
    rw [show o + 7 + k * 7 = o + (k + 1) * 7 by omega] at this
    exact this
theorem RdTP.open {p : Nat → Prop} {w : World} {t : Tree} {b o : Nat} (h : RdTP p w t b o) : ∃ A c, HC w b o t.hd A t.ps.length c ∧ RdLP p w t.ps A := by
  cases t with
  | node hd ps => rw [RdTP] at h; exact h
theorem RdLP.addr {p : Nat → Prop} {w : World} {ps : List Tree} {A : Option Addr} (h : RdLP p w ps A) (h0 : 0 < ps.length) : ∃ b o, A = some ⟨b, o, none⟩ ∧ p b := by
  cases ps with
  | nil => simp at h0
  | cons t ts =>
    rw [RdLP] at h
    obtain ⟨b, o, rfl, h1, _⟩ := h
    exact ⟨b, o, rfl, h1⟩
/-- no list of parts is longer than a machine's memory -/
inductive LenOk : Tree → Prop
  | mk (h : Hd) (ps : List Tree) (hl : ps.length ≤ 4611686018427387904) (hp : ∀ p, p ∈ ps → LenOk p) : LenOk (.node h ps)
theorem LenOk.open {h : Hd} {ps : List Tree} (hl : LenOk (.node h ps)) : ps.length ≤ 4611686018427387904 ∧ ∀ p, p ∈ ps → LenOk p := by
  cases hl with
  | mk _ _ a b => exact ⟨a, b⟩
theorem depth_ps (t : Tree) : depth t = depthL t.ps + 1 := by cases t; rfl
set_option maxRecDepth 100000 in
set_option maxHeartbeats 4000000 in
theorem tooDeep_any : ∀ t : Tree, ∀ (A : Option Addr) (c : Nat) (level : Int) (r : Nat) (w : World), LenOk t → RdLP (Cl w) w t.ps A → SeenOk w r → 2 ≤ level → level ≤ 17 →
    Calls Tryz.prog 100 #[.slice A t.ps.length c, .int .i64 level, .map (some r)] w fun e w' => e = .returned (.bool (decide (16 < level - 1 + (depthL t.ps : Int)))) ∧ Fr r w w' ∧ SeenOk w' r := by
  apply Tree.ind
  intro h ps ih A c level r w hLO hR hS hl2 hl17
  obtain ⟨hlen, hlo⟩ := hLO.open
  have HLO := Lib.hid hlo
  clear hLO hlo
  dsimp only [Tree.ps] at hR ⊢
  have HR := Lib.hid hR
  have HS := Lib.hid hS
  have IH := Lib.hid ih
  clear hR hS ih
  have hrl : r < w.heap.size := by obtain ⟨es, k, hm, _⟩ := HS.out; exact (Array.getElem?_eq_some_iff.1 hm).1
  rcases Nat.eq_zero_or_pos ps.length with h0 | h0
  · have e0 : ps = [] := List.eq_nil_of_length_eq_zero h0
    subst e0
    have hd : Hid (decide (16 < level - 1 + (depthL [] : Int)) = false) := Lib.hid (by simp [depthL]; omega)
    go_enter Tryz.func100, Tryz.ntmps100
    go_wp2_with fail
    go_ret
    exact ⟨ret1 (congrArg Value.bool hd.out.symm), Fr.refl _ _, HS.out⟩
  · have hge1 : 1 ≤ depthL ps := by
      cases ps with
      | nil => simp at h0
      | cons t ts => rw [depthL, depth_ps]; omega
    have g0 : ¬ (ps.length : Int) = 0 := by omega
    have g0' : ((ps.length : Int) == 0) = false := by simpa using g0
    by_cases h17 : 16 < level
    · have hd : Hid (decide (16 < level - 1 + (depthL ps : Int)) = true) := Lib.hid (by simp; omega)
      clear hge1
      go_enter Tryz.func100, Tryz.ntmps100
      go_wp2_with fail
      go_ret
      exact ⟨ret1 (congrArg Value.bool hd.out.symm), Fr.refl _ _, HS.out⟩
    · obtain ⟨b, o, rfl, hCb⟩ := HR.out.addr h0
      have HCb := Lib.hid hCb
      have Hge := Lib.hid hge1
      clear hCb hge1
      have B7 := Blk.new w 147 #[.pointer (some ⟨b, o, none⟩), .int .i64 ps.length]
      have hb7 := (Below.refl w.heap.size w).alloc (Nat.le_refl _) (.cells #[.pointer (some ⟨b, o, none⟩), .int .i64 ps.length] 147)
      have HS7 := Lib.hid (HS.out.below hb7)
      have HF7 : Hid (Fr r w _) := Lib.hid (Fr.of hb7)
      have HC7 := Lib.hid (HCb.out.of (hb7.block b HCb.out.lt))
      obtain ⟨lv, hlk, hgone⟩ := lookup_any ⟨b, o, none⟩ ps.length r _ HC7.out HS7.out
      have HG := Lib.hid hgone
      have HB7 := Lib.hid B7
      clear hgone hb7 B7
      obtain ⟨n7, hn7⟩ : ∃ n7, n7 = w.heap.size := ⟨_, rfl⟩
      have h7r : n7 ≠ r := by omega
      have Hn7 := Lib.hid hn7
      rw [← hn7] at HB7
      by_cases hlv : level ≤ lv
      · have hd : Hid (decide (16 < level - 1 + (depthL ps : Int)) = false) := Lib.hid (by
          rcases HG.out with e | ⟨_, ps', hl', hr', hdp⟩
          · omega
          · have hR7 := rdl_fr HS.out HF7.out HR.out
            have := rdl_one (rdp_rd.2 _ _ hR7) (rdp_rd.2 _ _ hr') hl'.symm
            subst this
            simp only [decide_eq_false_iff_not]
            omega)
        clear hn7
        go_enter Tryz.func100, Tryz.ntmps100
        go_wp2_with fail
        go_ret
        exact ⟨ret1 (congrArg Value.bool hd.out.symm), HF7.out, HS7.out⟩
      · clear hn7
        go_enter Tryz.func100, Tryz.ntmps100
        go_wp2_with fail
        rw [← Hn7.out]
        generalize hW : w.alloc (.cells #[.pointer (some ⟨b, o, none⟩), .int .i64 ps.length] 147) = W at *
        clear hW hlk hlv HG HC7
        go_loopw [27] (fun i wr => ∃ k : Nat, k ≤ ps.length ∧ i = .int .i64 k ∧ (∀ j (hj : j < ps.length), j < k → level + (depthL ps[j].ps : Int) ≤ 16) ∧ Fr r w wr ∧ SeenOk wr r ∧ Blk wr n7 147 #[.pointer (some ⟨b, o, none⟩), .int .i64 ps.length]) (fun i _ => ps.length - (intOf i).toNat)
        case atStart => exact ⟨0, by omega, rfl, fun j _ hj => absurd hj (by omega), HF7.out, HS7.out, HB7.out⟩
        case round =>
          clear HF7 HS7 HB7
          obtain ⟨k, hk, rfl, hok, hF, hS, hB⟩ := hrel
          have HOK := Lib.hid hok
          have HF := Lib.hid hF
          have HSr := Lib.hid hS
          have HB := Lib.hid hB
          have hRr := rdl_fr HS.out hF HR.out
          have HRr := Lib.hid hRr
          clear hok hF hS hB hRr
          by_cases hlt : k < ps.length
          · obtain ⟨A', c', hc, hr'⟩ := (HRr.out.get k hlt).open
            obtain ⟨p, hp⟩ : ∃ p, p = ps[k] := ⟨_, rfl⟩
            have HIH := Lib.hid (IH.out ps[k] (List.getElem_mem hlt))
            have HLP := Lib.hid (HLO.out ps[k] (List.getElem_mem hlt))
            have hdle : depth ps[k] ≤ depthL ps := depthL_le.1 (Nat.le_refl _) _ (List.getElem_mem hlt)
            rw [depth_ps] at hdle
            rw [← hp] at hc hr' HIH hdle HLP
            have HPK := Lib.hid hp
            have HDL := Lib.hid hdle
            clear hp hdle
            obtain ⟨c0, c1, c2, c3, c4, c5, c6⟩ := hc
            have hb1 := (Below.refl wr.heap.size wr).alloc (Nat.le_refl _) (hdo p.hd A' p.ps.length c')
            have HS1 := Lib.hid (HSr.out.below hb1)
            have HF1 := Lib.hid (HF.out.trans (Fr.of hb1))
            have HB1 := Lib.hid (HB.out.below hb1 HB.out.lt)
            have hr1 := rdl_fr HSr.out (Fr.of hb1) hr'
            have HCL := Lib.hid (HIH.out A' c' (level + 1) r _ HLP.out hr1 HS1.out (by omega) (by omega))
            clear hb1 hr1 hr'
            by_cases hbig : 16 < level + (depthL p.ps : Int)
            · have e1 : decide (16 < level + 1 - 1 + (depthL p.ps : Int)) = true := by simp; omega
              rw [e1] at HCL
              have hd : Hid (decide (16 < level - 1 + (depthL ps : Int)) = true) := Lib.hid (by have := HDL.out; simp; omega)
              clear e1 hbig
              go_wp2_with fail
              refine HCL.out.mono ?_
              rintro e w3 ⟨rfl, hf3, hs3⟩
              have HF3 := Lib.hid (HF1.out.trans hf3)
              have HS3 := Lib.hid hs3
              clear hf3 hs3 HCL
              go_wp2_with fail
              go_ret
              exact ⟨ret1 (congrArg Value.bool hd.out.symm), HF3.out, HS3.out⟩
            · have e1 : decide (16 < level + 1 - 1 + (depthL p.ps : Int)) = false := by simp; omega
              rw [e1] at HCL
              have HBIG := Lib.hid hbig
              clear e1 hbig
              go_wp2_with fail
              refine HCL.out.mono ?_
              rintro e w3 ⟨rfl, hf3, hs3⟩
              have HF3 := Lib.hid (HF1.out.trans hf3)
              have HS3 := Lib.hid hs3
              have HB3 := Lib.hid (HB1.out.fr hf3 h7r)
              clear hf3 hs3 HCL
              go_wp2_with fail
              go_roundw
              case rel => exact ⟨k + 1, by omega, by go_num, fun j hj hjk => by
                by_cases e : j = k
                · subst e; rw [← HPK.out]; have := HBIG.out; omega
                · exact HOK.out j hj (by omega), HF3.out, HS3.out, HB3.out⟩
              case measure => simp [intOf]; omega
          · obtain rfl : k = ps.length := by omega
            have hdp : level - 1 + (depthL ps : Int) ≤ 16 := by
              have : depthL ps ≤ (17 - level).toNat := depthL_le.2 fun q hq => by
                obtain ⟨j, hj, rfl⟩ := List.getElem_of_mem hq
                have := HOK.out j hj hj
                rw [depth_ps]; omega
              omega
            have hd : Hid (decide (16 < level - 1 + (depthL ps : Int)) = false) := Lib.hid (by simp; omega)
            obtain ⟨w5, hup, hf5, hs5⟩ := update_any ⟨b, o, none⟩ ps.length r level wr ⟨HCb.out.of (HF.out.block b HCb.out.lt (HCb.out.ne HS.out)), ps, rfl, HRr.out, hdp⟩ HSr.out
            have d0 : wr.cell? ⟨n7, 0, none⟩ = some (.pointer (some ⟨b, o, none⟩)) := (HB.out.cell 0).trans rfl
            have d1 : wr.cell? ⟨n7, 1, none⟩ = some (.int .i64 ps.length) := (HB.out.cell 1).trans rfl
            have HF5 := Lib.hid (HF.out.trans hf5)
            have HS5 := Lib.hid hs5
            clear hdp hf5 hs5
            go_wp2_with fail
            go_ret
            exact ⟨ret1 (congrArg Value.bool hd.out.symm), HF5.out, HS5.out⟩
end Go.Proofs.YticjhkfidgkecaaGreatDoor
