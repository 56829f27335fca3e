/- Layer 11 (package flow): a part is gone back to, and ended; a gap is opened below the top part. Condition: the block is a builder (Bl) with so many instructions and parts. -/
import Derived.Test.YtnclfopdgilgaaaFG
namespace Go.Proofs.Ytnclfopdgilgaaa
open Go.RowKit
set_option linter.unusedVariables false

theorem Bl.of_bv {w : World} {p : Nat} {vc vo : Value} {O : List (Pk × Value)} {L : List Xi} (h : Bv TB TP w p vc vo O L) : Bl w p (Sof p vc vo O) ⟨L, O.map Prod.fst⟩ := ⟨vc, vo, O, h, rfl, rfl⟩
set_option maxHeartbeats 2000000 in
theorem back_acts (L : List Xi) (C : List Pk) (q : Pk) (i : Nat) (hl : L.length = i + 1) (hi : i ≤ 999) (hd : C.length ≤ 999) (hq : ∀ j ∈ q.g, j < L.length) (hq2 : q.g.length ≤ 1000) :
    Acts 47 ⟨L, C ++ [q]⟩ ⟨closeL L.length q.g (setA L i q.s), C⟩ := fun w p S h => by
  have HL := Lib.hid (fun (W : World) (m : Mod [] w W) => last_bl (h.far m) i hl hi)
  obtain ⟨vc, vo, O, h, h2, rfl⟩ := h
  obtain ⟨A, v, rfl, rfl⟩ := snoc_map h2
  obtain ⟨g, cap, rfl, hgp, c0, c1, c2, fr, _⟩ := h.part
  obtain ⟨y, hy⟩ : ∃ y, L[i]? = some y := ⟨_, List.getElem?_eq_getElem (by omega)⟩
  obtain ⟨gc, cpc, rfl, hgc, hat, hfr, _, _⟩ := h.ins hy
  have HT := Lib.hid (fun (W : World) (m : Mod [] w W) => top_calls (h.far m) (by have h9 : A.length ≤ 999 := by { simpa using hd }; omega))
  obtain ⟨nl, hnl⟩ : ∃ nl, nl = L.length := ⟨_, rfl⟩
  obtain ⟨a, ha⟩ : ∃ a, a = A.length := ⟨_, rfl⟩
  have k0 := h.c0
  rw [← hnl] at k0
  dsimp only at c1
  rw [← ha] at c1 HT
  have hc1 := hat.c1
  have hf1 := hfr (i * 3 + 1)
  have hiI : (i : Int) < (nl : Int) := by omega
  have H0 := Lib.hid (And.intro h (And.intro hnl (And.intro ha (And.intro hl (And.intro hd (And.intro hq (And.intro hq2 hi)))))))
  have HC := Lib.hid (And.intro k0 (And.intro c1 (And.intro hc1 hf1)))
  have hgl := World.block_lt_of_cell? w _ hc1
  clear h h2 hy hat hfr hq hq2 hd hl hnl ha c0 c2 fr hgp hi
  go_enter Try.func47, Try.ntmps47
  go_upto_region 0 with fail
  go_region_with (first
    | (go_at_call 63; (with_reducible refine (HL.out _ (Mod.refl [] w).drew).mono ?_); rintro e w' ⟨rfl, rfl⟩)
    | (go_at_call 63; (with_reducible refine (HL.out _ HM1.out).mono ?_); rintro e w' ⟨rfl, rfl⟩)
    | (go_at_call 65; (with_reducible refine (HT.out _ (Mod.refl [] w).drew).mono ?_); rintro e w1 ⟨rfl, hm1⟩; have HM1 := Lib.hid ((Mod.refl [] w).drew.trans hm1); have j0 := HM1.out.cell (by simp) HC.out.1; have j1 := HM1.out.cell (by simp) HC.out.2.1; have j2 := HM1.out.cell (by simp) HC.out.2.2.1; have j3 := (HM1.out.frozen (by simp) hgl).trans HC.out.2.2.2; clear hm1)
    | fail)
  all_goals
    have hB := (H0.out.1.far HM1.out).setA i q.s
    have HB := Lib.hid (And.intro hB.1 ((HM1.out.up (by simp)).trans hB.2))
    clear hB j0 j1 j2 j3 k0 c1 hc1 hf1
    generalize w1.setCell ⟨gc, i * 3 + 1, none⟩ (.int .i64 (q.s : Int)) = X at *
    have hb : Bl X p _ ⟨setA L i q.s, A.map Prod.fst ++ [q]⟩ := ⟨_, _, _, HB.out.1, by simp, rfl⟩
    have H1 := Lib.hid (close_bl hb (by have := H0.out.2.2.2.2.1; omega) (by rw [setA_len]; have := H0.out.2.2.2.1; have := H0.out.2.2.2.2.2.2.2; omega) (by rw [setA_len]; exact H0.out.2.2.2.2.2.1) H0.out.2.2.2.2.2.2.1)
    rw [setA_len] at H1
    clear hb
    go_wp2_with fail
    refine (H1.out).mono ?_
    rintro e w2 ⟨⟨v2, rfl⟩, S2, h1, h2⟩
    have HE := Lib.hid (And.intro h1 h2)
    clear h1 h2
    go_wp2_with fail
    go_end0
    exact ⟨⟨_, rfl⟩, S2, HE.out.1, (Turn.of (HB.out.2.up fun x hx => mem_Sof.2 (Or.inr (Or.inl (by rw [List.mem_singleton.1 hx]; rfl))))).trans HE.out.2⟩
end Go.Proofs.Ytnclfopdgilgaaa
