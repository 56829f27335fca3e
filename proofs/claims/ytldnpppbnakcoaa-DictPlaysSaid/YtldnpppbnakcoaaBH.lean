/- Layer 9: the program's cutLists and Back. Condition: the block is such a dictionary (Pd9). -/
import Derived.Test.YtldnpppbnakcoaaBG
namespace Go.Proofs.Ytldnpppbnakcoaa
open Go.RowKit
set_option linter.unusedVariables false

/-- The order's row, cut and changed where it lies. -/
theorem PdV.cutO {w w' : World} {p n m cap : Nat} {A : Option Addr} {v : Value} {b : Nat} {Z : List (Nat × We)} {D : Di} {O : List Int} (h : PdV w p v b (.slice A n cap) Z D) (hm : Mod (Value.slice A n cap).ownBlock.toList w w')
    (hr : w'.ownsRow 0 3 1 (.slice A m cap) m (intsV O)) (hO : O.length ≤ 8) :
    PdV (w'.setCell ⟨p, 3, none⟩ (.slice A m cap)) p v b (.slice A m cap) Z { D with O := O } ∧ TurnD (p :: tailP v b (.slice A n cap) Z) (p :: tailP v b (.slice A m cap) Z) w (w'.setCell ⟨p, 3, none⟩ (.slice A m cap)) := by
  have hu : (Value.slice A m cap).ownBlock = (Value.slice A n cap).ownBlock := by cases A <;> rfl
  have hT : tailP v b (.slice A m cap) Z = tailP v b (.slice A n cap) Z := by unfold tailP; rw [hu]
  have hml : m = O.length := by have := hr.1; simpa [intsV] using this.symm
  have hn := h.nd
  unfold tailP at hn
  obtain ⟨n1, n2⟩ := List.nodup_cons.1 hn
  obtain ⟨n3, n4⟩ := List.nodup_cons.1 n2
  obtain ⟨_, n5, n6⟩ := List.nodup_append.1 n4
  obtain ⟨_, _, n7⟩ := List.nodup_append.1 n5
  have hp : p ∉ (Value.slice A n cap).ownBlock.toList := fun e => n1 (by simp only [List.mem_cons, List.mem_append]; exact Or.inr (Or.inr (Or.inl e)))
  have hb : b ∉ (Value.slice A n cap).ownBlock.toList := fun e => n3 (by simp only [List.mem_append]; exact Or.inr (Or.inl e))
  have hv : ∀ g, v.ownBlock = some g → g ∉ (Value.slice A n cap).ownBlock.toList := fun g hg e => n6 g (by rw [hg]; simp) g (by simp only [List.mem_append]; exact Or.inl e) rfl
  have hz : ∀ z ∈ Z, z.1 ∉ (Value.slice A n cap).ownBlock.toList := fun z hz e => n7 z.1 e z.1 (List.mem_map.2 ⟨z, hz, rfl⟩) rfl
  have hms : Mod [p] w' (w'.setCell ⟨p, 3, none⟩ (.slice A m cap)) := (Mod.refl [p] w').set (x := ⟨p, 3, none⟩) (Or.inl (by simp)) _
  have o : ∀ i, i ≠ 3 → (w'.setCell ⟨p, 3, none⟩ (.slice A m cap)).cell? ⟨p, i, none⟩ = w'.cell? ⟨p, i, none⟩ := fun i hi => by rw [World.cell?_setCell_other (h := by intro e; injection e with _ e; exact hi e.symm)]
  have hap := h.apart
  have hbody : PdB (w'.setCell ⟨p, 3, none⟩ (.slice A m cap)) v b (.slice A m cap) Z O :=
    ⟨rowD_mod (rowD_mod h.body.rv hm hv) hms fun g hg e => hap g (mem_tailP.2 (Or.inr (Or.inl hg))) e,
     (h.body.mp.mod hm hb).mod hms (hap b (mem_tailP.2 (Or.inl rfl))),
     by rw [← hml]; exact rowD_mod hr hms fun g hg e => hap g (mem_tailP.2 (Or.inr (Or.inr (Or.inl (hu ▸ hg))))) e,
     (h.body.ws.mod hm hz).mod hms fun z hz => hap z.1 (mem_tailP.2 (Or.inr (Or.inr (Or.inr ⟨z, hz, rfl⟩))))⟩
  refine ⟨⟨(o 0 (by omega)).trans (hm.cell hp h.c0), (o 1 (by omega)).trans (hm.cell hp h.c1), (o 2 (by omega)).trans (hm.cell hp h.c2), World.cell?_setCell_same _ _ _ (h := hm.cell hp h.c3), (o 4 (by omega)).trans (hm.cell hp h.c4), fun i => (World.frozen?_setCell _ _ _ _).trans ((hm.frozen hp h.lp).trans (h.f i)), Nat.lt_of_lt_of_le (Nat.lt_of_lt_of_le h.lp hm.size) hms.size, hbody, by rw [hT]; exact h.nd, h.eW, h.names, h.dw, hO, h.dk, h.dk1⟩, (hm.up fun y hy => ?_).trans (hms.up (by simp)), fun y hy => Or.inl (by rw [hT] at hy; exact hy)⟩
  exact List.mem_cons.2 (Or.inr (mem_tailP.2 (Or.inr (Or.inr (Or.inl (by simpa using hy))))))
set_option maxHeartbeats 2000000 in
theorem cutL_calls {w : World} {p : Nat} {T : List Nat} {D : Di} (h : Pd9 w p T D) (k : Nat) (hk1 : 1 ≤ k) (hk8 : k ≤ 8) :
    Calls Try.prog 44 #[PtD p, .int .i64 (k : Int)] w fun e w' => (∃ v, e = .returned v) ∧ ∃ T', Pd9 w' p T' ⟨D.W, k, D.O.filter (inK (k : Int)), if inK (k : Int) D.c = true then D.c else 1⟩ ∧ TurnD T T' w w' := by
  obtain ⟨v, b, u, Z, hv, rfl⟩ := h
  have h2 := hv.c2
  have hf2 := hv.f 2
  obtain ⟨hv1, m1⟩ := hv.setk k hk8 hk1
  obtain ⟨A, cap, rfl, hle, _⟩ := rowD_open hv1.body.ru
  obtain ⟨n, hn⟩ : ∃ n, n = D.O.length := ⟨_, rfl⟩
  change PdV _ _ _ _ (.slice A D.O.length cap) _ _ at hv1
  rw [← hn] at hv1
  have K1 := Lib.hid (delete_calls hv1 hn)
  have h3 := hv1.c3
  have HV := Lib.hid hv1
  have M1 := Lib.hid m1
  have hO8 : (D.O.filter (inK (k : Int))).length ≤ 8 := Nat.le_trans (List.length_filter_le _ _) hv.do_
  clear hv hv1 m1 hle
  obtain ⟨c9, hc9⟩ : ∃ c9, c9 = if inK (k : Int) D.c = true then D.c else 1 := ⟨_, rfl⟩
  obtain ⟨O9, hO9⟩ : ∃ O9, O9 = D.O.filter (inK (k : Int)) := ⟨_, rfl⟩
  have e0 : ({ D with k := k } : Di).O.filter (inK (({ D with k := k } : Di).k : Int)) = O9 := hO9.symm
  rw [e0] at K1
  rw [← hc9, ← hO9]
  rw [← hO9] at hO8
  have HC9 := Lib.hid hc9
  clear hc9 hO9 e0 hn
  go_enter Try.func44, Try.ntmps44
  go_wp2_with fail
  generalize w.setCell ⟨p, 2, none⟩ (.int .i64 (k : Int)) = w1 at K1 h3 HV M1 ⊢
  go_wp2_with fail
  refine (K1.out).mono ?_
  rintro e w2 ⟨m, rfl, hr, hm⟩
  obtain ⟨hs, ht⟩ := HV.out.cutO hm hr hO8
  have hpo : p ∉ (Value.slice A n cap).ownBlock.toList := by
    have hn := HV.out.nd
    unfold tailP at hn
    exact fun e => (List.nodup_cons.1 hn).1 (by simp only [List.mem_cons, List.mem_append]; exact Or.inr (Or.inr (Or.inl e)))
  have j3 := hm.cell (x := ⟨p, 3, none⟩) hpo h3
  have jf3 := (hm.frozen (x := ⟨p, 3, none⟩) hpo HV.out.lp).trans (HV.out.f 3)
  have g2 := hs.c2
  have g4 := hs.c4
  have gf4 := hs.f 4
  have K2 := Lib.hid (lackc_calls g2 D.c)
  have HS := Lib.hid (And.intro hs ht)
  clear hr hm hs ht K1 hpo
  have hu : (Value.slice A D.O.length cap).ownBlock = (Value.slice A n cap).ownBlock := by cases A <;> rfl
  have HM := Lib.hid (show TurnD (p :: tailP v b (.slice A D.O.length cap) Z) (p :: tailP v b (.slice A n cap) Z) w w1 from by
    rw [show tailP v b (.slice A D.O.length cap) Z = tailP v b (.slice A n cap) Z by unfold tailP; rw [hu]]
    exact TurnD.of (upP M1.out))
  clear hu
  cases hq : inK (k : Int) D.c with
  | true =>
    have HQ := Lib.hid hq
    rw [hq] at K2
    clear hq
    go_wp2_with fail
    refine (K2.out).mono ?_
    rintro e u1 ⟨rfl, rfl⟩
    go_wp2_with fail
    go_end0
    obtain rfl : c9 = D.c := by rw [HC9.out, HQ.out, if_pos rfl]
    exact ⟨⟨_, rfl⟩, _, ⟨_, _, _, _, HS.out.1, rfl⟩, HM.out.trans HS.out.2⟩
  | false =>
    have HQ := Lib.hid hq
    rw [hq] at K2
    have HC := Lib.hid (HS.out.1.setc 1)
    clear hq
    go_wp2_with fail
    refine (K2.out).mono ?_
    rintro e u1 ⟨rfl, rfl⟩
    go_wp2_with fail
    go_end0
    obtain rfl : c9 = 1 := by rw [HC9.out, HQ.out, if_neg (by decide)]
    exact ⟨⟨_, rfl⟩, _, ⟨_, _, _, _, HC.out.1, rfl⟩, (HM.out.trans HS.out.2).trans (TurnD.of (upP HC.out.2))⟩
end Go.Proofs.Ytldnpppbnakcoaa
