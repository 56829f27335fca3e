/- Layer 9: the program's Now; what Add needs. Condition: the block is such a dictionary (Pd9). -/
import Derived.Test.YtldnpppbnakcoaaD9T
import Derived.Test.YtldnpppbnakcoaaShelfBits
namespace Go.Proofs.Ytldnpppbnakcoaa
open Go.RowKit
set_option linter.unusedVariables false

theorem PdV.wo_ne {w : World} {p : Nat} {v : Value} {b : Nat} {u : Value} {Z : List (Nat × We)} {D : Di} (h : PdV w p v b u Z D) : ∀ z ∈ Z, p ≠ z.1 ∧ b ≠ z.1 ∧ v.ownBlock ≠ some z.1 ∧ u.ownBlock ≠ some z.1 := fun z hz => by
  have hm : z.1 ∈ Z.map (·.1) := List.mem_map.2 ⟨z, hz, rfl⟩
  have hn := h.nd
  unfold tailP at hn
  obtain ⟨n1, n2⟩ := List.nodup_cons.1 hn
  obtain ⟨n3, n4⟩ := List.nodup_cons.1 n2
  obtain ⟨_, n5, n6⟩ := List.nodup_append.1 n4
  obtain ⟨_, _, n7⟩ := List.nodup_append.1 n5
  refine ⟨fun e => n1 ?_, fun e => n3 ?_, fun e => n6 z.1 ?_ z.1 ?_ rfl, fun e => n7 z.1 ?_ z.1 hm rfl⟩
  · rw [e]; simp only [List.mem_cons, List.mem_append]; exact Or.inr (Or.inr (Or.inr hm))
  · rw [e]; simp only [List.mem_append]; exact Or.inr (Or.inr hm)
  · rw [e]; simp
  · exact List.mem_append.2 (Or.inr hm)
  · rw [e]; simp
theorem PdV.zn {w : World} {p : Nat} {v : Value} {b : Nat} {u : Value} {Z : List (Nat × We)} {D : Di} (h : PdV w p v b u Z D) : (Z.map (·.1)).Nodup := by
  have hn := (List.nodup_cons.1 h.nd).2
  unfold tailP at hn
  have hn2 := (List.nodup_cons.1 hn).2
  have hn3 := (List.nodup_append.1 hn2).2.1
  exact (List.nodup_append.1 hn3).2.1
theorem PdV.setnow {w : World} {p : Nat} {v : Value} {b : Nat} {u : Value} {z : Nat × We} {r : List (Nat × We)} {D : Di} (h : PdV w p v b u (z :: r) D) :
    PdV (w.setCell ⟨z.1, 2, none⟩ (.bool true)) p v b u ((z.1, { z.2 with now := true }) :: r) { D with W := (r.map (·.2)).reverse ++ [{ z.2 with now := true }] } ∧ Mod [z.1] w (w.setCell ⟨z.1, 2, none⟩ (.bool true)) := by
  have hm : Mod [z.1] w (w.setCell ⟨z.1, 2, none⟩ (.bool true)) := (Mod.refl [z.1] w).set (x := ⟨z.1, 2, none⟩) (Or.inl (by simp)) _
  obtain ⟨np, nb, nv, nu⟩ := h.wo_ne z (by simp)
  have hp : p ∉ [z.1] := by simpa using np
  have hz := h.zn
  rw [List.map_cons, List.nodup_cons] at hz
  have hw := h.body.ws.1
  have o : ∀ i, i ≠ 2 → (w.setCell ⟨z.1, 2, none⟩ (.bool true)).cell? ⟨z.1, i, none⟩ = w.cell? ⟨z.1, i, none⟩ := fun i hi => by rw [World.cell?_setCell_other (h := by intro e; injection e with _ e; exact hi e.symm)]
  have hD : D.W = (r.map (·.2)).reverse ++ [z.2] := by rw [h.eW]; simp
  refine ⟨⟨hm.cell hp h.c0, hm.cell hp h.c1, hm.cell hp h.c2, hm.cell hp h.c3, hm.cell hp h.c4, fun i => (hm.frozen hp h.lp).trans (h.f i), Nat.lt_of_lt_of_le h.lp hm.size, ⟨rowD_mod h.body.rv hm fun g hg hx => nv (by simp at hx; rw [hg, hx]), (h.body.mp.mod hm (by simpa using nb)).congr fun n => by rw [headZ_cons, headZ_cons], rowD_mod h.body.ru hm fun g hg hx => nu (by simp at hx; rw [hg, hx]), ⟨⟨(o 0 (by omega)).trans hw.c0, (o 1 (by omega)).trans hw.c1, World.cell?_setCell_same _ _ _ (h := hw.c2), (o 3 (by omega)).trans hw.c3, (o 4 (by omega)).trans hw.c4, fun i => (World.frozen?_setCell _ _ _ _).trans (hw.f i), Nat.lt_of_lt_of_le hw.lt hm.size⟩, h.body.ws.2.mod hm fun y hy hx => hz.1 (by simp at hx; rw [← hx]; exact List.mem_map.2 ⟨y, hy, rfl⟩)⟩⟩, h.nd, by simp, ?_, h.dw, h.do_, h.dk, h.dk1⟩, hm⟩
  intro a ha
  have ha : a ∈ (r.map (·.2)).reverse ++ [{ z.2 with now := true }] := ha
  rcases List.mem_append.1 ha with ha | ha
  · exact h.names a (by rw [hD]; exact List.mem_append.2 (Or.inl ha))
  · rw [List.mem_singleton.1 ha]
    exact h.names z.2 (by rw [hD]; simp)
theorem pnow_none {w : World} {p : Nat} {T : List Nat} {D : Di} (h : Pd9 w p T D) (hW : D.W = []) : Calls Try.prog 24 #[PtD p] w (PPlays p T (.int .i64 2) D w) := by
  have K0 := Lib.hid (none_calls h)
  have HH := Lib.hid h
  obtain ⟨v, b, u, Z, hv, rfl⟩ := h
  obtain ⟨A, cap, rfl, _⟩ := rowD_open hv.body.rv
  have h0 := hv.c0
  have hZ : Z.length = 0 := by
    have := hv.eW
    rw [hW] at this
    have := congrArg List.length this
    simpa using this.symm
  rw [hZ] at h0
  clear hv hW hZ
  unfold PPlays
  go_enter Try.func24, Try.ntmps24
  go_wp2_with fail
  refine (K0.out).mono ?_
  rintro e u1 ⟨rfl, rfl⟩
  go_wp2_with fail
  go_ret
  exact ⟨rfl, _, HH.out, TurnD.refl _ _⟩
theorem ptsZ_last (z : Nat × We) (r : List (Nat × We)) : (ptsZ (z :: r))[r.length]? = some (PtW z.1) := by
  rw [ptsZ_cons, List.getElem?_append_right (by rw [ptsZ_len]; omega), ptsZ_len, Nat.sub_self]
  rfl
set_option maxHeartbeats 2000000 in
theorem pnow_ok {w : World} {p : Nat} {T : List Nat} {D : Di} (h : Pd9 w p T D) (B : List We) (a : We) (hW : D.W = B ++ [a]) : Calls Try.prog 24 #[PtD p] w (PPlays p T (.int .i64 0) { D with W := B ++ [{ a with now := true }] } w) := by
  have K0 := Lib.hid (none_calls h)
  obtain ⟨v, b, u, Z, hv, rfl⟩ := h
  cases Z with
  | nil =>
    have := hv.eW
    rw [hW] at this
    have := congrArg List.length this
    simp at this
  | cons z r =>
    obtain ⟨rfl, rfl⟩ : B = (r.map (·.2)).reverse ∧ a = z.2 := by
      have e := hv.eW
      rw [hW, List.map_cons, List.reverse_cons] at e
      have e2 := List.append_inj' e rfl
      exact ⟨e2.1, by simpa using e2.2⟩
    obtain ⟨A, cap, rfl, _, hc⟩ := rowD_open hv.body.rv
    obtain ⟨g, rfl, hcell⟩ := hc r.length (by simp)
    rw [ptsZ_last] at hcell
    have h0 := hv.c0
    have hd := hv.dw
    have hw := hv.body.ws.1
    have c2 := hw.c2
    have hf := hw.f 2
    have hs := (hv.mod ((Mod.refl [] w).drew) (by simp)).setnow
    have HS := Lib.hid (And.intro hs.1 (show TurnD (p :: tailP (.slice (some ⟨g, 0, none⟩) (z :: r).length cap) b u (z :: r)) (p :: tailP (.slice (some ⟨g, 0, none⟩) (z :: r).length cap) b u ((z.1, { z.2 with now := true }) :: r)) w _ from ⟨((Mod.refl [] w).drew.up (by simp)).trans (hs.2.up (by simp [tailP])), fun x hx => Or.inl hx⟩))
    obtain ⟨q, hq⟩ : ∃ q, q = z.1 := ⟨_, rfl⟩
    rw [← hq] at hcell c2 hf
    rw [show w.drew.setCell ⟨z.1, 2, none⟩ (.bool true) = w.drew.setCell ⟨q, 2, none⟩ (.bool true) by rw [hq]] at HS
    obtain ⟨nw, hnw⟩ : ∃ nw, nw = z.2.now := ⟨_, rfl⟩
    rw [← hnw] at c2
    simp only [List.length_cons] at h0 hd
    obtain ⟨k, hk⟩ : ∃ k, k = r.length := ⟨_, rfl⟩
    rw [← hk] at h0 hd hcell
    have hz : ¬ ((k : Int) + 1 = 0) := by omega
    have hzb : ((k : Int) + 1 == 0) = false := by rw [beq_eq_false_iff_ne]; exact hz
    clear hv hs hw hk hnw hq hW hc
    unfold PPlays
    go_enter Try.func24, Try.ntmps24
    go_wp2_with fail
    refine (K0.out).mono ?_
    rintro e u1 ⟨rfl, rfl⟩
    go_upto_region 3 with fail
    go_region
    all_goals
      go_wp2_with fail
      go_ret
      exact ⟨rfl, _, ⟨_, _, _, _, HS.out.1, rfl⟩, HS.out.2⟩
end Go.Proofs.Ytldnpppbnakcoaa
