/- Layer 11 (package flow): what each part does to a builder. Condition: the block is a builder (Bl) with so many instructions and parts; gaps are instructions of it. -/
import Derived.Test.YtnclfopdgilgaaaFE
import Derived.Deep.LoopGhost
namespace Go.Proofs.Ytnclfopdgilgaaa
open Go.RowKit
set_option linter.unusedVariables false

/-- Block p of w is a builder with this definition and these parts; S its blocks. -/
def Bl (w : World) (p : Nat) (S : List Nat) (B : Bd) : Prop := ∃ vc vo O, Bv TB TP w p vc vo O B.L ∧ B.P = O.map Prod.fst ∧ S = Sof p vc vo O
/-- The method f turns B into B'. -/
def Acts (f : FuncId) (B B' : Bd) : Prop := ∀ w p S, Bl w p S B → Calls Try.prog f #[Pt p] w fun e w' => (∃ v, e = .returned v) ∧ ∃ S', Bl w' p S' B' ∧ Turn S S' w w'
theorem snoc_map {O : List (Pk × Value)} {C : List Pk} {q : Pk} (h : C ++ [q] = O.map Prod.fst) : ∃ A v, O = A ++ [(q, v)] ∧ C = A.map Prod.fst := by
  rcases List.eq_nil_or_concat O with rfl | ⟨A, x, rfl⟩
  · simp at h
  · rw [List.concat_eq_append, List.map_append] at h
    obtain ⟨h1, h2⟩ := List.append_inj' h rfl
    refine ⟨A, x.2, ?_, h1⟩
    rw [List.concat_eq_append]
    have : q = x.1 := by simpa using h2
    rw [this]
theorem Gr.at {w : World} {v : Value} {g : List Nat} (h : Gr w v g) {i x : Nat} (hx : g[i]? = some x) : ∃ b cap, v = .slice (some ⟨b, 0, none⟩) g.length cap ∧ w.cell? ⟨b, i, none⟩ = some (.int .i64 (x : Int)) := by
  obtain ⟨hi, rfl⟩ := List.getElem?_eq_some_iff.1 hx
  have hr : w.ownsRow 0 3 1 v (ints g).length (intsV (ints g)) := h
  rcases h.2 with ⟨_, h0⟩ | ⟨b, cap, cur, rfl, _⟩
  · simp at h0
    rw [h0] at hi
    simp at hi
  · refine ⟨b, cap, by simp, ?_⟩
    rw [hr.cellAt i (by simp; omega)]
    simp [intsV, hi]
theorem take_more {g : List Nat} {i x : Nat} (hx : g[i]? = some x) : g.take (i + 1) = g.take i ++ [x] := by
  obtain ⟨hi, rfl⟩ := List.getElem?_eq_some_iff.1 hx
  exact List.take_succ_eq_append_getElem hi
@[go_sem ↓] theorem run_field_gaps (k s : Int) (A : Option Addr) (n c : Nat) (W : World) : (Instr.field 94 (.agg #[.int .i64 k, .int .i64 s, .slice A n c]) 2).run Try.prog W = .ok (.slice A n c) W := by kernel_rfl
set_option maxHeartbeats 2000000 in
set_option maxRecDepth 100000 in
theorem close_calls {w : World} {p g n cap : Nat} {vc : Value} {A : List (Pk × Value)} {q : Pk} {v : Value} {L : List Xi} (h : Bv TB TP w p vc (.slice (some ⟨g, 0, none⟩) n cap) (A ++ [(q, v)]) L) (hd : A.length ≤ 1000) (hl : L.length ≤ 1000) (hq : ∀ i ∈ q.g, i < L.length) (hq2 : q.g.length ≤ 1000) :
    Calls Try.prog 43 #[Pt p] w fun e w' => (∃ v, e = .returned v) ∧ Bv TB TP w' p vc (.slice (some ⟨g, 0, none⟩) A.length cap) A (closeL L.length q.g L) ∧ Mod (p :: g :: vc.ownBlock.toList) w w' := by
  have H1 := Lib.hid (remove_calls h hd)
  obtain ⟨A2, cap2, hv⟩ := (h.gaps (q, v) (by simp)).slice
  obtain ⟨gl, hgl⟩ : ∃ gl, gl = q.g.length := ⟨_, rfl⟩
  have hvb : ∀ b, v.ownBlock = some b → b ∉ vc.ownBlock.toList := fun b hb hx => ((h.gp (q, v) (by simp)).2 b hb).1 (by simpa using hx)
  obtain ⟨A0, cap0, hvc, _⟩ := h.code_slice
  obtain ⟨nl, hnl⟩ : ∃ nl, nl = L.length := ⟨_, rfl⟩
  have HV := Lib.hid (And.intro hgl (And.intro hnl (And.intro hvb (And.intro hq (And.intro hl hq2)))))
  have glI : (gl : Int) ≤ 1000 := by omega
  have hvn : v = .slice A2 gl cap2 := by rw [hgl]; exact hv
  have hcn : vc = .slice A0 nl cap0 := by rw [hnl]; exact hvc
  subst hvn
  have HCN := Lib.hid hcn
  clear h hvb hq hq2 hd hl hv hvc hcn hgl hnl
  go_enter Try.func43, Try.ntmps43
  go_wp2_with fail
  refine (H1.out).mono ?_
  rintro e w1 ⟨rfl, B1, G1, M1⟩
  have HM1 := Lib.hid M1
  have h0 := Lib.hid (And.intro B1 G1)
  clear B1 G1 M1 H1
  go_wp2_with fail
  go_loopg [8] gl (fun g' z wr => ∃ i : Nat, z = .int .i64 (i : Int) ∧ i + g' = gl ∧ RowKit.Hid (Bv TB TP wr p vc (.slice (some ⟨g, 0, none⟩) A.length cap) A (closeL nl (q.g.take i) L) ∧ Gr wr (.slice A2 gl cap2) q.g ∧ Mod vc.ownBlock.toList w1 wr))
  case atStart => exact ⟨0, rfl, by omega, Lib.hid ⟨by simpa [closeL] using h0.out.1, h0.out.2, Mod.refl _ _⟩⟩
  case round =>
    clear h0
    obtain ⟨i, rfl, hig, hi⟩ := hrel
    by_cases hlt : i < gl
    · have hltI : (i : Int) < (gl : Int) := by omega
      obtain ⟨x, hx⟩ : ∃ x, q.g[i]? = some x := ⟨_, List.getElem?_eq_getElem (by have := HV.out.1; omega)⟩
      obtain ⟨b, cp2, e, hc⟩ := hi.out.2.1.at hx
      simp only [Value.slice.injEq] at e
      obtain ⟨rfl, _, _⟩ := e
      have hxl : x < L.length := HV.out.2.2.2.1 x (List.mem_of_getElem? hx)
      obtain ⟨y, hy⟩ : ∃ y, (closeL nl (q.g.take i) L)[x]? = some y := ⟨_, List.getElem?_eq_getElem (by rw [closeL_len]; exact hxl)⟩
      obtain ⟨gc, cpc, e, hgc, hat, hfr, _, _⟩ := hi.out.1.ins hy
      rw [closeL_len, ← HV.out.2.1] at e
      have hc0 := hi.out.1.c0
      rw [e] at hc0
      have hc1 := hat.c1
      have hf1 := hfr (x * 3 + 1)
      have hB := hi.out.1
      rw [e] at hB
      have hS := hB.setA x nl
      have hxI : (x : Int) < (nl : Int) := by have := HV.out.2.1; omega
      have e2 : closeL nl (q.g.take (i + 1)) L = setA (closeL nl (q.g.take i) L) x nl := by rw [take_more hx, closeL_snoc]
      rw [← e2, ← e] at hS
      have hvc2 : vc.ownBlock = some gc := by rw [e]; rfl
      have HS := Lib.hid (And.intro hS (And.intro hi.out.2 (And.intro hvc2 hig)))
      clear hi hat hfr hB hS e2 hy hx e hig hvc2
      go_upto_region 3 with fail
      go_region
      have hX : RowKit.Hid (Bv TB TP (wr.setCell ⟨gc, x * 3 + 1, none⟩ (.int .i64 (nl : Int))).drew p vc (.slice (some ⟨g, 0, none⟩) A.length cap) A (closeL nl (q.g.take (i + 1)) L) ∧ Mod [gc] wr (wr.setCell ⟨gc, x * 3 + 1, none⟩ (.int .i64 (nl : Int))).drew) :=
        Lib.hid ⟨HS.out.1.1.far (Mod.refl [] _).drew, HS.out.1.2.drew⟩
      generalize (wr.setCell ⟨gc, x * 3 + 1, none⟩ (.int .i64 (nl : Int))).drew = X at *
      clear hc hc0 hc1 hf1
      go_wp2_with fail
      go_roundg (gk - 1)
      case measure => have := HS.out.2.2.2; omega
      case rel =>
        refine ⟨i + 1, by go_num, by have := HS.out.2.2.2; omega, Lib.hid ⟨hX.out.1, row_mod HS.out.2.1.1 hX.out.2 fun b hb hx => ?_, HS.out.2.1.2.trans (hX.out.2.up fun y hy => ?_)⟩⟩
        · refine HV.out.2.2.1 b hb ?_
          rw [HS.out.2.2.1]
          simpa [eq_comm] using hx
        · rw [HS.out.2.2.1]
          simpa [eq_comm] using hy
    · have hltI : ¬ (i : Int) < (gl : Int) := by omega
      obtain rfl : i = gl := by omega
      have hb := hi.out
      rw [List.take_of_length_le (by have := HV.out.1; omega)] at hb
      have HB := Lib.hid hb
      have HN := HV.out.2.1
      clear hi hb hig hlt
      go_wp2_with fail
      go_end0
      refine ⟨⟨_, rfl⟩, by rw [← HN]; exact HB.out.1, (HM1.out.up (by simp)).trans (HB.out.2.2.up fun y hy => by simp at hy; simp [hy])⟩
end Go.Proofs.Ytnclfopdgilgaaa
