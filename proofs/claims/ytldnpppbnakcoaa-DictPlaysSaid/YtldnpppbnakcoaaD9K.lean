/- Layer 9: acts that came in, and the row of acts that is made of them. Condition: the argument is a slice of acts. -/
import Derived.Test.YtldnpppbnakcoaaRows
import Derived.Test.YtldnpppbnakcoaaD9H
import Derived.Deep.Slices
import Derived.ProofKit
import Derived.OpenShut
namespace Go.Proofs.Ytldnpppbnakcoaa
open Go.RowKit Go.ChangeShapes Go.WideShapes Go.ChangeAt Go.Deep
set_option linter.unusedVariables false

theorem Try.cellsActS : Try.prog.cellsOf 33 = 6 := by kernel_rfl
theorem Try.cellsByteS : Try.prog.cellsOf 5 = 1 := by kernel_rfl
theorem Try.cellsIntS : Try.prog.cellsOf 3 = 1 := by kernel_rfl
theorem Try.cellsStrS : Try.prog.cellsOf 9 = 1 := by kernel_rfl
theorem Try.cellsIntsS : Try.prog.cellsOf 29 = 1 := by kernel_rfl
theorem Try.cellsMarkS : Try.prog.cellsOf 31 = 2 := by kernel_rfl
theorem u8_of {a : Int} (h : (Lit.int .u8 a).wf = true) : ∃ c : UInt8, a = (c.toNat : Int) := by
  have h2 := bounds_u8 h
  obtain ⟨n, rfl⟩ := Int.eq_ofNat_of_zero_le h2.1
  refine ⟨n.toUInt8, ?_⟩
  rw [Nat.toUInt8_eq, UInt8.toNat_ofNat', Nat.mod_eq_of_lt (by omega)]
/-- An act: its kind, its text, its number, where its numbers lie (n of them), its mark. -/
structure Ac where
  c : UInt8
  s : ByteArray
  x : Int
  A : Option Addr
  n : Nat
  cap : Nat
  a : Int
  b : Int
def flatA (a : Ac) : List Value := [.int .u8 (a.c.toNat : Int), .string a.s, .int .i64 a.x, .slice a.A a.n a.cap, .int .i64 a.a, .int .i64 a.b]
/-- An act in six cells. -/
structure AtA (W : World) (b o : Nat) (a : Ac) : Prop where
  c0 : W.cell? ⟨b, o, none⟩ = some (.int .u8 (a.c.toNat : Int))
  c1 : W.cell? ⟨b, o + 1, none⟩ = some (.string a.s)
  c2 : W.cell? ⟨b, o + 2, none⟩ = some (.int .i64 a.x)
  c3 : W.cell? ⟨b, o + 3, none⟩ = some (.slice a.A a.n a.cap)
  c4 : W.cell? ⟨b, o + 4, none⟩ = some (.int .i64 a.a)
  c5 : W.cell? ⟨b, o + 5, none⟩ = some (.int .i64 a.b)
/-- The numbers of an act lie in the world. -/
def IntsOf (W : World) (A : Option Addr) (n cap : Nat) : Prop := ∃ Y : List Int, IntsAt W A Y ∧ Y.length = n ∧ (A = none → cap = 0) ∧ (∀ y ∈ Y, I64 y) ∧ n ≤ cap ∧ cap ≤ 9223372036854775807
theorem IntsOf.far {w w' : World} {A : Option Addr} {n cap : Nat} (h : IntsOf w A n cap) (m : Mod [] w w') : IntsOf w' A n cap := by
  obtain ⟨Y, h1, h2⟩ := h
  exact ⟨Y, h1.far m, h2⟩
theorem IntsOf.take {w : World} {A : Option Addr} {n cap : Nat} (h : IntsOf w A n cap) (k : Nat) (hk : k ≤ n) : IntsOf w A k cap := by
  obtain ⟨Y, h1, h2, h3, h4, h5, h6⟩ := h
  exact ⟨Y.take k, fun i hi => by
    obtain ⟨b, o, e, hc⟩ := h1 i (by simp at hi; omega)
    exact ⟨b, o, e, by rw [hc]; simp⟩, by simp; omega, h3, fun y hy => h4 y (List.mem_of_mem_take hy), by omega, h6⟩
structure WellA (W : World) (a : Ac) : Prop where
  s : a.s.size ≤ 9223372036854775807
  x : I64 a.x
  l : IntsOf W a.A a.n a.cap
  m1 : I64 a.a
  m2 : I64 a.b
theorem WellA.far {w w' : World} {a : Ac} (h : WellA w a) (m : Mod [] w w') : WellA w' a := ⟨h.s, h.x, h.l.far m, h.m1, h.m2⟩
theorem AtA.far {w w' : World} {b o : Nat} {a : Ac} (h : AtA w b o a) (m : Mod [] w w') : AtA w' b o a := ⟨m.cell (by simp) h.c0, m.cell (by simp) h.c1, m.cell (by simp) h.c2, m.cell (by simp) h.c3, m.cell (by simp) h.c4, m.cell (by simp) h.c5⟩
def ActsIn (W : World) (A : Option Addr) (len : Nat) : Prop := ∀ i, i < len → ∃ b o a, A = some ⟨b, o, none⟩ ∧ AtA W b (o + i * 6) a ∧ WellA W a
theorem addr_zeroS (x : Addr) : x.add 0 = x := by unfold Addr.add; simp
theorem ints_openS {H : Type} {enc : TypeId × Value → H} {W : World} {base n : Nat} {sp : Nat → Bool} {held : Bool} {v : Value} {d : DataW H × List MemPlace} (h : DataW.trod enc Try.prog W base sp held n 29 [v] = some d) :
    ∃ A len cap, v = .slice A len cap ∧ IntsOf W A len cap := by
  rcases open_slice Try.underlying29 h with ⟨hcs, _⟩ | ⟨a, l, c, m, n2, D, Pl, hcs, _, hl, hc, hm, _, hi⟩
  · simp at hcs
    exact ⟨none, 0, 0, hcs, [], fun i hi => by simp at hi, rfl, fun _ => rfl, fun y hy => by simp at hy, by omega, by omega⟩
  · simp at hcs
    have hc9 : c ≤ 9223372036854775807 := by unfold maxLen at hc; omega
    have hval : ∀ i, i < l → ∃ y : Int, I64 y ∧ W.cell? (a.add i) = some (.int .i64 y) := fun i hil => by
      have him : i < m := by rw [hm]; split <;> omega
      obtain ⟨cs', hcc, ht⟩ := hi i him
      rw [Try.cellsIntS] at hcc
      obtain ⟨_, hl1, hat⟩ := World.cells?_some hcc
      have h0 := hat 0 (by omega)
      obtain ⟨y, y1, _, y2⟩ := DataW.trod_int Try.underlying3 ht
      subst y1
      rw [addr_zeroS, Nat.mul_one] at h0
      exact ⟨y, i64_of_wf y2, by rw [h0]; rfl⟩
    refine ⟨some a, l, c, hcs, ?_⟩
    by_cases hl0 : l = 0
    · exact ⟨[], fun i hi => by simp at hi, by simp [hl0], fun h => by simp at h, fun y hy => by simp at hy, hl, hc9⟩
    have hs : a.spot = none := by
      obtain ⟨y, _, hy⟩ := hval 0 (by omega)
      rw [addr_zeroS] at hy
      exact World.cell?_spot hy
    obtain ⟨b, o, s⟩ := a
    simp only at hs
    subst hs
    have key : ∀ k, k ≤ l → ∃ Y : List Int, Y.length = k ∧ (∀ y ∈ Y, I64 y) ∧ ∀ i (hi : i < Y.length), W.cell? ⟨b, o + i, none⟩ = some (.int .i64 Y[i]) := fun k => by
      induction k with
      | zero => exact fun _ => ⟨[], rfl, fun y hy => by simp at hy, fun i hi => by simp at hi⟩
      | succ k ih =>
        intro hk
        obtain ⟨Y, h1, h2, h3⟩ := ih (by omega)
        obtain ⟨y, hy, hc⟩ := hval k (by omega)
        rw [Go.WideShapes.add_plain] at hc
        refine ⟨Y ++ [y], by simp [h1], fun z hz => (List.mem_append.1 hz).elim (h2 z) fun hz => by rw [List.mem_singleton.1 hz]; exact hy, fun i hi => ?_⟩
        by_cases e : i < Y.length
        · rw [List.getElem_append_left e]; exact h3 i e
        · have e2 : i = k := by simp at hi; omega
          subst e2
          rw [List.getElem_append_right (by omega)]
          simp only [h1, Nat.sub_self, List.getElem_cons_zero]
          exact hc
    obtain ⟨Y, h1, h2, h3⟩ := key l (Nat.le_refl _)
    exact ⟨Y, fun i hi => ⟨b, o, rfl, h3 i hi⟩, h1, fun h => by simp at h, h2, hl, hc9⟩
theorem mark_openS {H : Type} {enc : TypeId × Value → H} {W : World} {base n : Nat} {sp : Nat → Bool} {held : Bool} {cs : List Value} {d : DataW H × List MemPlace} (h : DataW.trod enc Try.prog W base sp held n 31 cs = some d) :
    ∃ a b : Int, cs = [.int .i64 a, .int .i64 b] ∧ I64 a ∧ I64 b := by
  obtain ⟨xs, n', _, _, hlen, hxl, hf⟩ := DataW.trod_struct Try.underlying31 h
  rw [Try.cellsMarkS] at hlen
  match cs, hlen with
  | [c0, c1], _ =>
    match xs, hxl with
    | [y0, y1], _ =>
      have e0 : DataW.trod enc Try.prog W base sp held n' 3 (([c0, c1].drop 0).take (Try.prog.cellsOf 3)) = some y0 := hf 0 _ rfl
      have e1 : DataW.trod enc Try.prog W base sp held n' 3 (([c0, c1].drop 1).take (Try.prog.cellsOf 3)) = some y1 := hf 1 _ rfl
      rw [Try.cellsIntS] at e0 e1
      obtain ⟨x, x1, _, x2⟩ := DataW.trod_int Try.underlying3 e0
      obtain ⟨y, u1, _, u2⟩ := DataW.trod_int Try.underlying3 e1
      simp at x1 u1
      subst x1 u1
      exact ⟨x, y, rfl, i64_of_wf x2, i64_of_wf u2⟩
theorem act_openS {H : Type} {enc : TypeId × Value → H} {W : World} {base n : Nat} {sp : Nat → Bool} {held : Bool} {cs : List Value} {d : DataW H × List MemPlace} (h : DataW.trod enc Try.prog W base sp held n 33 cs = some d) :
    ∃ a : Ac, cs = flatA a ∧ WellA W a := by
  obtain ⟨xs, n', _, _, hlen, hxl, hf⟩ := DataW.trod_struct Try.underlying33 h
  rw [Try.cellsActS] at hlen
  match cs, hlen with
  | [c0, c1, c2, c3, c4, c5], _ =>
    match xs, hxl with
    | [y0, y1, y2, y3, y4], _ =>
      have e0 : DataW.trod enc Try.prog W base sp held n' 5 (([c0, c1, c2, c3, c4, c5].drop 0).take (Try.prog.cellsOf 5)) = some y0 := hf 0 _ rfl
      have e1 : DataW.trod enc Try.prog W base sp held n' 9 (([c0, c1, c2, c3, c4, c5].drop 1).take (Try.prog.cellsOf 9)) = some y1 := hf 1 _ rfl
      have e2 : DataW.trod enc Try.prog W base sp held n' 3 (([c0, c1, c2, c3, c4, c5].drop 2).take (Try.prog.cellsOf 3)) = some y2 := hf 2 _ rfl
      have e3 : DataW.trod enc Try.prog W base sp held n' 29 (([c0, c1, c2, c3, c4, c5].drop 3).take (Try.prog.cellsOf 29)) = some y3 := hf 3 _ rfl
      have e4 : DataW.trod enc Try.prog W base sp held n' 31 (([c0, c1, c2, c3, c4, c5].drop 4).take (Try.prog.cellsOf 31)) = some y4 := hf 4 _ rfl
      rw [Try.cellsByteS] at e0
      rw [Try.cellsStrS] at e1
      rw [Try.cellsIntS] at e2
      rw [Try.cellsIntsS] at e3
      rw [Try.cellsMarkS] at e4
      obtain ⟨k, k1, _, k2⟩ := DataW.trod_int Try.underlying5 e0
      obtain ⟨s, s1, _, s2⟩ := DataW.trod_string Try.underlying9 e1
      obtain ⟨x, x1, _, x2⟩ := DataW.trod_int Try.underlying3 e2
      have e3' : DataW.trod enc Try.prog W base sp held n' 29 [c3] = some y3 := e3
      obtain ⟨A, l, c, l1, l2⟩ := ints_openS e3'
      obtain ⟨a, b, m1, ma, mb⟩ := mark_openS e4
      simp at k1 s1 x1 m1
      obtain ⟨m1, m2⟩ := m1
      subst k1 s1 x1 l1 m1 m2
      obtain ⟨c, rfl⟩ := u8_of k2
      unfold maxLen at s2
      exact ⟨⟨c, s, x, A, l, _, a, b⟩, rfl, s2, i64_of_wf x2, l2, ma, mb⟩
theorem acts_openS {H : Type} {enc : TypeId × Value → H} {W : World} {base n : Nat} {sp : Nat → Bool} {held : Bool} {A : Option Addr} {len cap : Nat} {d : DataW H × List MemPlace} (h : DataW.trod enc Try.prog W base sp held n 22 [.slice A len cap] = some d) :
    ActsIn W A len ∧ len ≤ 9223372036854775807 := by
  rcases open_slice Try.underlying22 h with ⟨hcs, _⟩ | ⟨a, l, c, m, n2, D, Pl, hcs, _, hl, hc, hm, _, hi⟩
  · simp at hcs
    obtain ⟨rfl, rfl, rfl⟩ := hcs
    exact ⟨fun i hi => absurd hi (by omega), by omega⟩
  · simp at hcs
    obtain ⟨rfl, rfl, rfl⟩ := hcs
    refine ⟨fun i hil => ?_, by unfold maxLen at hc; omega⟩
    have him : i < m := by rw [hm]; split <;> omega
    obtain ⟨cs', hcc, ht⟩ := hi i him
    rw [Try.cellsActS] at hcc
    obtain ⟨v, rfl, hw⟩ := act_openS ht
    obtain ⟨_, _, hat⟩ := World.cells?_some hcc
    have h0 := hat 0 (by omega)
    have h1 := hat 1 (by omega)
    have h2 := hat 2 (by omega)
    have h3 := hat 3 (by omega)
    have h4 := hat 4 (by omega)
    have h5 := hat 5 (by omega)
    have hs : a.spot = none := by
      obtain ⟨cs0, hcc0, ht0⟩ := hi 0 (by omega)
      obtain ⟨v0, rfl, _⟩ := act_openS ht0
      rw [Try.cellsActS, Nat.zero_mul, addr_zeroS] at hcc0
      obtain ⟨_, _, hat0⟩ := World.cells?_some hcc0
      have q := hat0 0 (by omega)
      rw [addr_zeroS] at q
      exact World.cell?_spot (q.trans rfl)
    obtain ⟨b, o, s⟩ := a
    simp only at hs
    subst hs
    rw [Go.WideShapes.add_plain] at h0 h1 h2 h3 h4 h5
    rw [Go.WideShapes.add_plain] at h0 h1 h2 h3 h4 h5
    exact ⟨b, o, v, rfl, ⟨h0, h1, h2, h3, h4, h5⟩, hw⟩
def flatsA (K : List Ac) : List Value := K.flatMap flatA
theorem flatsA_len (L : List Ac) : (flatsA L).length = L.length * 6 := by
  induction L with
  | nil => rfl
  | cons x r ih => simp only [flatsA, List.flatMap_cons, List.length_append] at ih ⊢; rw [ih]; simp [flatA]; omega
theorem flatsA_snoc (K : List Ac) (a : Ac) : flatsA (K ++ [a]) = flatsA K ++ flatA a := by simp [flatsA]
theorem flatsA_get (L : List Ac) (j k : Nat) (hj : j < L.length) (hk : k < 6) : (flatsA L)[j * 6 + k]? = (flatA L[j])[k]? := by
  have e : flatsA L = flatsA (L.take j) ++ (flatA L[j] ++ flatsA (L.drop (j + 1))) := by
    have h1 : L = L.take j ++ L[j] :: L.drop (j + 1) := by rw [← List.drop_eq_getElem_cons hj, List.take_append_drop]
    have h2 : flatsA L = flatsA (L.take j ++ L[j] :: L.drop (j + 1)) := by rw [← h1]
    rw [h2]
    unfold flatsA
    rw [List.flatMap_append, List.flatMap_cons]
  have hl : (flatsA (L.take j)).length = j * 6 := by rw [flatsA_len, List.length_take]; congr 1; omega
  rw [e, List.getElem?_append_right (by omega), hl, Nat.add_sub_cancel_left, List.getElem?_append_left (by simp [flatA]; omega)]
/-- v is a row of acts of one's own. -/
def ActRow (w : World) (base : Nat) (v : Value) (K : List Ac) : Prop := w.ownsRow base 33 6 v K.length (flatsA K)
theorem ActRow.nil (w : World) (base : Nat) : ActRow w base (.slice none 0 0) [] := ⟨rfl, .inl ⟨rfl, rfl⟩⟩
theorem ActRow.far {w w' : World} {base : Nat} {v : Value} {K : List Ac} (h : ActRow w base v K) (k : Mod [] w w') : ActRow w' base v K := by
  refine ⟨h.1, h.2.elim Or.inl fun ⟨g, cap, cur, h1, h2, h3, h4⟩ => Or.inr ⟨g, cap, cur, h1, h2, ?_, h4⟩⟩
  rw [k.block g (Array.getElem?_eq_some_iff.1 h3).1 (by simp)]
  exact h3
theorem infoActS : (Try.prog.info? 33).map (fun i => (i.zero, i.size, i.bytes)) = some (some (.agg #[.int .u8 0, .string ⟨#[]⟩, .int .i64 0, .slice none 0 0, .int .i64 0, .int .i64 0]), 6, 72) := by kernel_rfl
theorem ActRow.app {w : World} {base : Nat} {v : Value} {K : List Ac} (h : ActRow w base v K) (hb : base ≤ w.heap.size) (hl : K.length ≤ 80) (ty : TypeId) (ad : Addr) (cp : Nat) (a : Ac) (hc : ∀ j u, (flatA a)[j]? = some u → w.cell? (ad.add j) = some u) :
    ∃ v' w', (Builtin.append_ #[22, 22] ty #[v, .slice (some ad) 1 cp]).run Try.prog w = .ok v' w' ∧ ActRow w' base v' (K ++ [a]) ∧ Below base w w' := by
  obtain ⟨i, hi, hz0, hz1, hz2⟩ := info_parts infoActS
  have hm : maxLen = 9223372036854775807 := rfl
  obtain ⟨v', w', h1, h2, h3, _⟩ := run_append_own (P := Try.prog) w base 22 ty 33 i _ 6 72 Try.underlying22 hi hz0 hz1 hz2 rfl (by decide) _ _ _ h ad 1 cp (flatA a) rfl hc (fun u hu => by
    simp [flatA] at hu
    rcases hu with rfl | rfl | rfl | rfl | rfl | rfl <;> rfl) (by omega) (by omega) hb
  refine ⟨v', w', h1, ?_, ?_⟩
  · unfold ActRow
    have e : (K ++ [a]).length = K.length + 1 := by simp
    rw [e, flatsA_snoc]
    exact h2
  · exact ⟨h3.os, h3.tape, h3.output, h3.size, fun k hk => h3.block k (Nat.lt_of_lt_of_le hk hb) fun e => by
      rcases h.2 with ⟨rfl, _⟩ | ⟨g, cap, cur, rfl, h2, _⟩
      · cases e
      · have e2 : k = g := by injection e
        omega⟩
theorem wpList_appAct {w : World} {ops : Array Oper} {rest : List Oper} {o : Oper} {a : Act} {Q : Exit → Act → World → Prop} (hgd : o.guard = none) (s x : Operand)
    (ho : o.op = .call { callee := .builtin .append, args := #[s, x], argTypes := #[22, 22] })
    {base : Nat} {v : Value} {K : List Ac} (h : ActRow w base v K) (hb : base ≤ w.heap.size) (hl : K.length ≤ 80) (b : Addr) (cp : Nat) (c : Ac) (hc : ∀ j u, (flatA c)[j]? = some u → w.cell? (b.add j) = some u)
    (v1 : a.eval s = v) (v2 : a.eval x = .slice (some b) 1 cp)
    (hK : ∀ v' w', ActRow w' base v' (K ++ [c]) → Below base w w' → wpList Try.prog ops Q rest (a.put o.dst v') w') : wpList Try.prog ops Q (o :: rest) a w := by
  obtain ⟨v', w', hr, h2, h3⟩ := h.app hb hl o.type b cp c hc
  refine wpList_plain hgd fun Y hk => ?_
  unfold Oper.wp execOp
  simp only [ho, resolve, invoke, builtin, Sem.run_bind, Sem.run_pure, Result.andThen_ok, List.map_toArray, List.map_cons, List.map_nil, v1, v2, hr]
  exact hk _ _ (hK v' w' h2 h3)
theorem ActRow.cells {w : World} {base : Nat} {v : Value} {K : List Ac} (h : ActRow w base v K) : ∃ A cap, v = .slice A K.length cap ∧ ∀ j (hj : j < K.length), ∃ b, A = some ⟨b, 0, none⟩ ∧ AtA w b (j * 6) K[j] := by
  rcases h.2 with ⟨rfl, h0⟩ | ⟨g, cap, cur, rfl, h2, h3, h4⟩
  · exact ⟨none, 0, by rw [h0], fun j hj => by omega⟩
  · have hown : w.ownsRow base 33 6 (.slice (some ⟨g, 0, none⟩) K.length cap) K.length (flatsA K) := h
    refine ⟨some ⟨g, 0, none⟩, cap, rfl, fun j hj => ⟨g, rfl, ?_⟩⟩
    have get : ∀ k, k < 6 → w.cell? ⟨g, j * 6 + k, none⟩ = (flatA K[j])[k]? := fun k hk => by
      rw [hown.cellAt (j * 6 + k) (by omega), flatsA_get K j k hj hk]
    exact ⟨get 0 (by omega), get 1 (by omega), get 2 (by omega), get 3 (by omega), get 4 (by omega), get 5 (by omega)⟩
theorem act_new (W : World) (a : Ac) (t : TypeId) : ∀ j u, (flatA a)[j]? = some u → (W.alloc (.cells (flatA a).toArray t)).cell? ((⟨W.heap.size, 0, none⟩ : Addr).add j) = some u := fun j u hj => by
  have hb : (W.alloc (.cells (flatA a).toArray t)).heap[W.heap.size]? = some (.cells (flatA a).toArray t) := (MapKept.heap_alloc W _).1
  rw [WideShapes.add_plain, Nat.zero_add, ← hj]
  simp only [World.cell?, hb]
  simp
end Go.Proofs.Ytldnpppbnakcoaa
