/- Rows of texts of a call's own, nil at first, that are appended to. Condition: they are short of 1000000000 texts. -/
import Derived.Test.YtgmdagjaigbajaaBrow
namespace Go.Proofs.Ytgmdagjaigbajaa
open Go.RowKit
set_option linter.unusedVariables false

def strV (l : List ByteArray) : List Value := l.map Value.string
/-- v is a row of one's own, nil or in a block from base on, whose texts are X. -/
def Sr (w : World) (base : Nat) (v : Value) (X : List ByteArray) : Prop := w.ownsRow base 9 1 v X.length (strV X)
theorem Sr.nil (w : World) (base : Nat) : Sr w base (.slice none 0 0) [] := ⟨rfl, .inl ⟨rfl, rfl⟩⟩
theorem Sr.far {w w' : World} {base : Nat} {v : Value} {X : List ByteArray} (h : Sr w base v X) (k : Mod [] w w') : Sr w' base v X := by
  refine ⟨h.1, h.2.elim Or.inl fun ⟨g, cap, cur, h1, h2, h3, h4⟩ => Or.inr ⟨g, cap, cur, h1, h2, ?_, h4⟩⟩
  rw [k.block g (Array.getElem?_eq_some_iff.1 h3).1 (by simp)]
  exact h3
theorem Try.infoStr : (Try.prog.info? 9).map (fun i => (i.zero, i.size, i.bytes)) = some (some (.string ⟨#[]⟩), 1, 16) := by kernel_rfl
theorem Sr.app1 {w : World} {base : Nat} {v : Value} {X : List ByteArray} (h : Sr w base v X) (hb : base ≤ w.heap.size) (hl : X.length ≤ 1000000000) (ty : TypeId) (a : Addr) (cp : Nat) (c : ByteArray) (hc : w.cell? (a.add 0) = some (.string c)) :
    ∃ v' w', (Builtin.append_ #[39, 39] ty #[v, .slice (some a) 1 cp]).run Try.prog w = .ok v' w' ∧ Sr w' base v' (X ++ [c]) ∧ Below base w w' := by
  obtain ⟨i, hi, hz0, hz1, hz2⟩ := info_parts Try.infoStr
  have hm : maxLen = 9223372036854775807 := rfl
  obtain ⟨v', w', h1, h2, h3, h4⟩ := run_append_own (P := Try.prog) w base 39 ty 9 i (.string ⟨#[]⟩) 1 16 Try.underlying39 hi hz0 hz1 hz2 rfl (by decide) _ _ _ h a 1 cp (strV [c]) (by simp [strV])
    (fun j u hj => by
      have hj' := (List.getElem?_eq_some_iff.1 hj).1
      have : j = 0 := by simpa [strV] using hj'
      subst this
      rw [hc, ← hj]; simp [strV]) (fun u hu => by obtain ⟨x, _, rfl⟩ := List.mem_map.1 hu; rfl) (by omega) (by omega) hb
  refine ⟨v', w', h1, ?_, ?_⟩
  · unfold Sr
    have e : (X ++ [c]).length = X.length + 1 := by simp
    have e2 : strV (X ++ [c]) = strV X ++ strV [c] := by simp [strV]
    rw [e, e2]
    exact h2
  · exact ⟨h3.os, h3.tape, h3.output, h3.size, fun k hk => h3.block k (Nat.lt_of_lt_of_le hk hb) fun e => by
      rcases h.2 with ⟨rfl, _⟩ | ⟨g, cap, cur, rfl, h2, _⟩
      · cases e
      · have e2 : k = g := by injection e
        omega⟩
theorem wpList_appT {w : World} {ops : Array Oper} {rest : List Oper} {o : Oper} {a : Act} {Q : Exit → Act → World → Prop} (hgd : o.guard = none) (s x : Operand)
    (ho : o.op = .call { callee := .builtin .append, args := #[s, x], argTypes := #[39, 39] })
    {base : Nat} {v : Value} {X : List ByteArray} (h : Sr w base v X) (hb : base ≤ w.heap.size) (hl : X.length ≤ 1000000000) (b : Addr) (cp : Nat) (c : ByteArray) (hc : w.cell? (b.add 0) = some (.string c))
    (v1 : a.eval s = v) (v2 : a.eval x = .slice (some b) 1 cp)
    (hK : ∀ v' w', Sr w' base v' (X ++ [c]) → Below base w w' → wpList Try.prog ops Q rest (a.put o.dst v') w') : wpList Try.prog ops Q (o :: rest) a w := by
  obtain ⟨v', w', hr, h2, h3⟩ := h.app1 hb hl o.type b cp c hc
  refine wpList_plain hgd fun K hk => ?_
  unfold Oper.wp execOp
  simp only [ho, resolve, invoke, builtin, Sem.run_bind, Sem.run_pure, Result.andThen_ok, List.map_toArray, List.map_cons, List.map_nil, v1, v2, hr]
  exact hk _ _ (hK v' w' h2 h3)
/-- A row of one's own, opened. -/
theorem Sr.opened {w : World} {base : Nat} {v : Value} {X : List ByteArray} (h : Sr w base v X) : ∃ A cap, v = .slice A X.length cap ∧ ∀ j (hj : j < X.length), ∃ b, A = some ⟨b, 0, none⟩ ∧ w.cell? ⟨b, j, none⟩ = some (.string X[j]) := by
  rcases h.2 with ⟨rfl, h0⟩ | ⟨g, cap, cur, rfl, h2, h3, h4⟩
  · exact ⟨none, 0, by rw [h0], fun j hj => by omega⟩
  · refine ⟨some ⟨g, 0, none⟩, cap, rfl, fun j hj => ⟨g, rfl, ?_⟩⟩
    have hown : w.ownsRow base 9 1 (.slice (some ⟨g, 0, none⟩) X.length cap) X.length (strV X) := h
    rw [hown.cellAt j (by omega)]
    simp [strV, hj]
theorem one_str (w : World) (c : ByteArray) (t : TypeId) : (w.alloc (.cells #[.string c] t)).cell? ((⟨w.heap.size, 0, none⟩ : Addr).add 0) = some (.string c) := by
  rw [WideShapes.add_plain, Nat.zero_add, World.cell?_alloc_new]
  rfl
theorem conv_two (W : World) (c d : UInt8) : (convert 33 9 (.slice (some ⟨W.heap.size, 0, none⟩) 2 2)).run Try.prog (W.alloc (.cells #[.int .u8 (c.toNat : Int), .int .u8 (d.toNat : Int)] 5)) = .ok (.string (str [c, d])) (W.alloc (.cells #[.int .u8 (c.toNat : Int), .int .u8 (d.toNat : Int)] 5)) := by
  refine run_convert_bytes_back (P := Try.prog) _ 33 9 5 ⟨W.heap.size, 0, none⟩ 2 [c, d] Try.underlying33 Try.underlying5 Try.underlying9 fun j hj => ?_
  rw [WideShapes.add_plain, Nat.zero_add, World.cell?_alloc_new]
  match j, hj with
  | 0, _ => rfl
  | 1, _ => rfl
end Go.Proofs.Ytgmdagjaigbajaa
