/- Layer 10: a definition that came in; its first 60 instructions. No condition. -/
import Derived.Test.YtheealjhmndbgaaDoorIS
namespace Go.Proofs.YtheealjhmndbgaaDoor
open Go.ChangeShapes Go.WideShapes Go.RowKit Go.ChangeAt Go.Deep
set_option linter.unusedVariables false

theorem addr_zeroI (x : Addr) : x.add 0 = x := by unfold Addr.add; simp
set_option maxRecDepth 100000 in
theorem ins_open {H : Type} {enc : TypeId × Value → H} {W : World} {base n : Nat} {sp : Nat → Bool} {held : Bool} {cs : List Value} {d : DataW H × List MemPlace} (h : DataW.trod enc Tryd.prog W base sp held n 36 cs = some d) :
    ∃ x : Xi, cs = [.int .u8 (x.op : Int), .int .i64 x.a, .int .i64 x.w] ∧ WellX x := by
  obtain ⟨xs, n', _, _, hlen, hxl, hf⟩ := DataW.trod_struct Tryd.underlying36 h
  rw [Tryd.cellsInsI] at hlen
  match cs, hlen with
  | [c0, c1, c2], _ =>
    match xs, hxl with
    | [y0, y1, y2], _ =>
      have e0 : DataW.trod enc Tryd.prog W base sp held n' 5 (([c0, c1, c2].drop 0).take (Tryd.prog.cellsOf 5)) = some y0 := hf 0 _ rfl
      have e1 : DataW.trod enc Tryd.prog W base sp held n' 3 (([c0, c1, c2].drop 1).take (Tryd.prog.cellsOf 3)) = some y1 := hf 1 _ rfl
      have e2 : DataW.trod enc Tryd.prog W base sp held n' 34 (([c0, c1, c2].drop 2).take (Tryd.prog.cellsOf 34)) = some y2 := hf 2 _ rfl
      rw [Tryd.cellsByteI] at e0
      rw [Tryd.cellsIntI] at e1
      rw [Tryd.cellsCellI] at e2
      obtain ⟨k, k1, _, k2⟩ := DataW.trod_int Tryd.underlying5 e0
      obtain ⟨a, a1, _, a2⟩ := DataW.trod_int Tryd.underlying3 e1
      obtain ⟨v, v1, _, v2⟩ := DataW.trod_int Tryd.underlying34 e2
      simp at k1 a1 v1
      subst k1 a1 v1
      have hb := bounds_u8 k2
      obtain ⟨o, rfl⟩ := Int.eq_ofNat_of_zero_le hb.1
      exact ⟨⟨o, a, v⟩, rfl, ⟨by show o < 256; omega, i64_of_wf a2, i64_of_wf v2⟩⟩
/-- A slice of instructions that came in. -/
theorem inss_open {H : Type} {enc : TypeId × Value → H} {W : World} {base n : Nat} {sp : Nat → Bool} {held : Bool} {v : Value} {d : DataW H × List MemPlace} (h : DataW.trod enc Tryd.prog W base sp held n 22 [v] = some d) :
    ∃ A len cap L, v = .slice A len cap ∧ InsAt W A L ∧ len = L.length ∧ (A = none → cap = 0) ∧ len ≤ cap ∧ cap ≤ 9223372036854775807 := by
  rcases open_slice Tryd.underlying22 h with ⟨hcs, _⟩ | ⟨a, l, c, m, n2, D, Pl, hcs, _, hl, hc, hm, _, hi⟩
  · simp at hcs
    exact ⟨none, 0, 0, [], hcs, fun i hi => by simp at hi, rfl, fun _ => rfl, by omega, by omega⟩
  · simp at hcs
    have hc9 : c ≤ 9223372036854775807 := by unfold maxLen at hc; omega
    have hval : ∀ i, i < l → ∃ x : Xi, WellX x ∧ W.cell? (a.add (i * 3)) = some (.int .u8 (x.op : Int)) ∧ W.cell? ((a.add (i * 3)).add 1) = some (.int .i64 x.a) ∧ W.cell? ((a.add (i * 3)).add 2) = some (.int .i64 x.w) := fun i hil => by
      have him : i < m := by rw [hm]; split <;> omega
      obtain ⟨cs', hcc, ht⟩ := hi i him
      rw [Tryd.cellsInsI] at hcc
      obtain ⟨x, rfl, hw⟩ := ins_open ht
      obtain ⟨_, hl1, hat⟩ := World.cells?_some hcc
      have h0 := hat 0 (by omega)
      have h1 := hat 1 (by omega)
      have h2 := hat 2 (by omega)
      rw [addr_zeroI] at h0
      exact ⟨x, hw, h0, h1, h2⟩
    refine ⟨some a, l, c, ?_⟩
    by_cases hl0 : l = 0
    · exact ⟨[], hcs, fun i hi => by simp at hi, by simp [hl0], fun h => by simp at h, hl, hc9⟩
    have hs : a.spot = none := by
      obtain ⟨x, _, hx, _⟩ := hval 0 (by omega)
      rw [Nat.zero_mul, addr_zeroI] at hx
      exact World.cell?_spot hx
    obtain ⟨b, o, s⟩ := a
    simp only at hs
    subst hs
    have key : ∀ k, k ≤ l → ∃ L : List Xi, L.length = k ∧ ∀ i (hi : i < L.length), AtX W b (o + i * 3) L[i] ∧ WellX L[i] := fun k => by
      induction k with
      | zero => exact fun _ => ⟨[], rfl, fun i hi => by simp at hi⟩
      | succ k ih =>
        intro hk
        obtain ⟨L, h1, h2⟩ := ih (by omega)
        obtain ⟨x, hw, hx0, hx1, hx2⟩ := hval k (by omega)
        rw [Go.WideShapes.add_plain] at hx0 hx1 hx2
        rw [Go.WideShapes.add_plain] at hx1 hx2
        refine ⟨L ++ [x], by simp [h1], fun i hi => ?_⟩
        by_cases e : i < L.length
        · rw [List.getElem_append_left e]; exact h2 i e
        · have e2 : i = k := by simp at hi; omega
          subst e2
          rw [List.getElem_append_right (by omega)]
          simp only [h1, Nat.sub_self, List.getElem_cons_zero]
          exact ⟨⟨hx0, hx1, hx2⟩, hw⟩
    obtain ⟨L, h1, h2⟩ := key l (Nat.le_refl _)
    exact ⟨L, hcs, fun i hi => ⟨b, o, rfl, h2 i hi⟩, h1.symm, fun h => by simp at h, hl, hc9⟩
set_option maxRecDepth 100000 in
theorem def_open {H : Type} {enc : TypeId × Value → H} {W : World} {base : Nat} {v : Value} {d : DataW H} {p : List MemPlace} {b0 : Nat} {sp : Nat → Bool} {held : Bool} {r : Reach} (hv : Value.okWide Tryd.prog W r b0 24 v) (h : DataW.Trod enc Tryd.prog W base sp held 24 v d p) :
    ∃ A len cap L, v = defV A len cap ∧ InsAt W A L ∧ len = L.length ∧ (A = none → cap = 0) ∧ len ≤ cap ∧ cap ≤ 9223372036854775807 := by
  obtain ⟨cs, rfl, hsz⟩ := okWide_struct Tryd.underlying24 hv
  rw [Tryd.cellsDefI] at hsz
  obtain ⟨c0, rfl⟩ : ∃ c0, cs = #[c0] := by
    obtain ⟨l⟩ := cs
    match l, hsz with
    | [c0], _ => exact ⟨c0, rfl⟩
  obtain ⟨fuel, hf0⟩ := h
  obtain ⟨xs, n', _, _, hlen, hxl, hf⟩ := DataW.trod_struct Tryd.underlying24 hf0
  have e0 : DataW.trod enc Tryd.prog W base sp held n' 22 ((((Value.agg #[c0]).cells.toList).drop 0).take (Tryd.prog.cellsOf 22)) = xs[0]? := hf 0 _ rfl
  rw [Tryd.cellsInssI] at e0
  match xs, hxl with
  | [y0], _ =>
    have e1 : DataW.trod enc Tryd.prog W base sp held n' 22 [c0] = some y0 := by simpa [Value.cells] using e0
    obtain ⟨A, len, cap, L, h1, h2⟩ := inss_open e1
    exact ⟨A, len, cap, L, by rw [h1], h2⟩
theorem few_calls (w : World) (A : Option Addr) (n cap : Nat) (hA : A = none → cap = 0) (hn : n ≤ cap) (hc : cap ≤ 9223372036854775807) : Calls Tryd.prog 10 #[defV A n cap] w fun e w' => e = .returned (defV A (min n 60) cap) ∧ Mod [] w w' := by
  have hM := Mod.refl [] w
  obtain ⟨q, hq⟩ : ∃ q, q = min n 60 := ⟨_, rfl⟩
  rw [← hq]
  have hqm : min (n : Int) 60 = (q : Int) := by omega
  have hqn : q ≤ n := by omega
  have hqc : (q : Int) ≤ (cap : Int) := by omega
  have hcI : (cap : Int) ≤ 9223372036854775807 := by omega
  clear hq
  cases A with
  | none =>
    obtain rfl := hA rfl
    obtain rfl : n = 0 := by omega
    obtain rfl : q = 0 := by omega
    clear hqm hqn hqc hA hn hc hcI
    go_enter Tryd.func10, Tryd.ntmps10
    go_wp2
    exact bodyPost_ret (v := defV none 0 0) (by simp [results, Tryd.results10, go_sem]) rfl ⟨rfl, (hM.alloc _).alloc _⟩
  | some a =>
    obtain ⟨b, o, s⟩ := a
    clear hA
    by_cases h60 : n ≤ 60
    · obtain rfl : q = n := by omega
      have h60I : ¬ 60 < (q : Int) := by omega
      go_enter Tryd.func10, Tryd.ntmps10
      go_wp2
      exact bodyPost_ret (v := defV (some ⟨b, o, s⟩) q cap) (by simp [results, Tryd.results10, go_sem]) rfl ⟨rfl, (hM.alloc _).alloc _⟩
    · obtain rfl : q = 60 := by omega
      have h60I : 60 < (n : Int) := by omega
      have h60c : (60 : Int) ≤ (cap : Int) := by omega
      go_enter Tryd.func10, Tryd.ntmps10
      go_wp2
      exact bodyPost_ret (v := defV (some ⟨b, o, s⟩) 60 cap) (by simp [results, Tryd.results10, go_sem]) rfl ⟨rfl, (hM.alloc _).alloc _⟩
end Go.Proofs.YtheealjhmndbgaaDoor
