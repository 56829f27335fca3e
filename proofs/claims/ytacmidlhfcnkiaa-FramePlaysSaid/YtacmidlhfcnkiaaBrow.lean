/- Rows of bytes of a call's own, nil at first, that are appended to and told as a text. Condition: they are short of 1000000000 bytes. -/
import Derived.Test.YtacmidlhfcnkiaaS6A
import Derived.Test.YtacmidlhfcnkiaaText
import Derived.Laws.IdiomStrings
import Derived.Laws.BytesArg
import Derived.Lib.AppendStr
namespace Go.Proofs.Ytacmidlhfcnkiaa
open Go.RowKit
set_option linter.unusedVariables false

def u8s (l : List UInt8) : List Value := l.map fun c => .int .u8 (c.toNat : Int)
theorem u8s_len (l : List UInt8) : (u8s l).length = l.length := by simp [u8s]
theorem u8s_get (l : List UInt8) (i : Nat) (h : i < l.length) : (u8s l)[i]? = some (.int .u8 (l[i].toNat : Int)) := by simp [u8s, h]
/-- v is a row of one's own, nil or in a block from base on, whose bytes are X. -/
def Br (w : World) (base : Nat) (v : Value) (X : List UInt8) : Prop := w.ownsRow base 5 1 v X.length (u8s X)
theorem Br.nil (w : World) (base : Nat) : Br w base (.slice none 0 0) [] := ⟨rfl, .inl ⟨rfl, rfl⟩⟩
theorem Br.mod {S : List Nat} {w w' : World} {base : Nat} {v : Value} {X : List UInt8} (h : Br w base v X) (k : Mod S w w') (hS : ∀ b ∈ S, b < base) : Br w' base v X := by
  refine ⟨h.1, h.2.elim Or.inl fun ⟨g, cap, cur, h1, h2, h3, h4⟩ => Or.inr ⟨g, cap, cur, h1, h2, ?_, h4⟩⟩
  rw [k.block g (Array.getElem?_eq_some_iff.1 h3).1 fun hg => by have := hS g hg; omega]
  exact h3
theorem Br.far {w w' : World} {base : Nat} {v : Value} {X : List UInt8} (h : Br w base v X) (k : Mod [] w w') : Br w' base v X := h.mod k (by simp)
theorem Br.drew {w : World} {base : Nat} {v : Value} {X : List UInt8} (h : Br w base v X) : Br w.drew base v X := h.far (Mod.refl [] w).drew
theorem Br.conv {w : World} {base : Nat} {v : Value} {X : List UInt8} (h : Br w base v X) : (convert 55 9 v).run Try.prog w = .ok (.string (str X)) w := by
  have hown : w.ownsRow base 5 1 v X.length (u8s X) := h
  rcases h.2 with ⟨rfl, h0⟩ | ⟨g, cap, cur, rfl, h2, h3, h4⟩
  · have hX : X = [] := List.eq_nil_of_length_eq_zero h0
    subst hX
    exact run_convert_bytes_nil (P := Try.prog) w 55 5 Try.underlying55 Try.underlying5 0 0 9 Try.underlying9
  · refine run_convert_bytes_back (P := Try.prog) w 55 9 5 ⟨g, 0, none⟩ cap X Try.underlying55 Try.underlying5 Try.underlying9 fun j hj => ?_
    rw [WideShapes.add_plain, Nat.zero_add, hown.cellAt j (by omega), u8s_get X j hj]
theorem Try.infoByte : (Try.prog.info? 5).map (fun i => (i.zero, i.size, i.bytes)) = some (some (.int .u8 0), 1, 1) := by kernel_rfl
theorem u8s_one (X : List UInt8) : ∀ u ∈ u8s X, u.oneCell' = true := fun u hu => by
  obtain ⟨x, _, rfl⟩ := List.mem_map.1 hu
  rfl
theorem below_grown {w w' : World} {base : Nat} {v : Value} {n : Nat} {xs : List Value} (ho : w.ownsRow base 5 1 v n xs) (h : w.grownBy w' v.ownBlock) (hb : base ≤ w.heap.size) : Below base w w' :=
  ⟨h.os, h.tape, h.output, h.size, fun k hk => h.block k (Nat.lt_of_lt_of_le hk hb) fun e => by
    rcases ho.2 with ⟨rfl, _⟩ | ⟨g, cap, cur, rfl, h2, _⟩
    · cases e
    · have e2 : k = g := by injection e
      omega⟩
/-- One byte more. -/
theorem Br.app1 {w : World} {base : Nat} {v : Value} {X : List UInt8} (h : Br w base v X) (hb : base ≤ w.heap.size) (hl : X.length ≤ 4611686018427387904) (hl2 : X.length ≤ 1000000000) (ty : TypeId) (a : Addr) (cp : Nat) (c : UInt8) (hc : w.cell? (a.add 0) = some (.int .u8 (c.toNat : Int))) :
    ∃ v' w', (Builtin.append_ #[55, 55] ty #[v, .slice (some a) 1 cp]).run Try.prog w = .ok v' w' ∧ Br w' base v' (X ++ [c]) ∧ Below base w w' := by
  obtain ⟨i, hi, hz0, hz1, hz2⟩ := info_parts Try.infoByte
  have hm : maxLen = 9223372036854775807 := rfl
  obtain ⟨v', w', h1, h2, h3, h4⟩ := run_append_own (P := Try.prog) w base 55 ty 5 i (.int .u8 0) 1 1 Try.underlying55 hi hz0 hz1 hz2 rfl (by decide) _ _ _ h a 1 cp (u8s [c]) (by simp [u8s])
    (fun j u hj => by
      have hj' := (List.getElem?_eq_some_iff.1 hj).1
      have : j = 0 := by simpa [u8s] using hj'
      subst this
      rw [hc, ← hj]; simp [u8s]) (u8s_one _) (by omega) (by omega) hb
  refine ⟨v', w', h1, ?_, below_grown h h3 hb⟩
  unfold Br
  have e : (X ++ [c]).length = X.length + 1 := by simp
  have e2 : u8s (X ++ [c]) = u8s X ++ u8s [c] := by simp [u8s]
  rw [e, e2]
  exact h2
/-- A text more. -/
theorem Br.appS {w : World} {base : Nat} {v : Value} {X : List UInt8} (h : Br w base v X) (hb : base ≤ w.heap.size) (Y : List UInt8) (hl : X.length + Y.length ≤ 1000000000) (ty : TypeId) :
    ∃ v' w', (Builtin.append_ #[55, 9] ty #[v, .string (str Y)]).run Try.prog w = .ok v' w' ∧ Br w' base v' (X ++ Y) ∧ Below base w w' := by
  obtain ⟨i, hi, hz0, hz1, hz2⟩ := info_parts Try.infoByte
  have hm : maxLen = 9223372036854775807 := rfl
  have hs := str_size Y
  obtain ⟨v', w', h1, h2, h3, h4⟩ := Lib.run_append_own_string (P := Try.prog) w base 55 9 ty 5 i Try.underlying55 Try.underlying9 hi hz0 hz1 hz2 _ _ _ h (str Y) (by omega) (by omega) hb
  refine ⟨v', w', h1, ?_, below_grown h h3 hb⟩
  unfold Br
  have e : (X ++ Y).length = X.length + (str Y).size := by rw [hs]; simp
  have e2 : u8s (X ++ Y) = u8s X ++ Lib.strCells (str Y) := by simp [u8s, Lib.strCells, str]
  rw [e, e2]
  exact h2
/-- An append in the walk: its equation is laid. -/
theorem wpList_app1 {w : World} {ops : Array Oper} {rest : List Oper} {o : Oper} {a : Act} {Q : Exit → Act → World → Prop} (hgd : o.guard = none) (s x : Operand)
    (ho : o.op = .call { callee := .builtin .append, args := #[s, x], argTypes := #[55, 55] })
    {base : Nat} {v : Value} {X : List UInt8} (h : Br w base v X) (hb : base ≤ w.heap.size) (hl : X.length ≤ 1000000000) (b : Addr) (cp : Nat) (c : UInt8) (hc : w.cell? (b.add 0) = some (.int .u8 (c.toNat : Int)))
    (v1 : a.eval s = v) (v2 : a.eval x = .slice (some b) 1 cp)
    (hK : ∀ v' w', Br w' base v' (X ++ [c]) → Below base w w' → wpList Try.prog ops Q rest (a.put o.dst v') w') : wpList Try.prog ops Q (o :: rest) a w := by
  obtain ⟨v', w', hr, h2, h3⟩ := h.app1 hb (by omega) hl o.type b cp c hc
  refine wpList_plain hgd fun K hk => ?_
  unfold Oper.wp execOp
  simp only [ho, resolve, invoke, builtin, Sem.run_bind, Sem.run_pure, Result.andThen_ok, List.map_toArray, List.map_cons, List.map_nil, v1, v2, hr]
  exact hk _ _ (hK v' w' h2 h3)
theorem wpList_appS {w : World} {ops : Array Oper} {rest : List Oper} {o : Oper} {a : Act} {Q : Exit → Act → World → Prop} (hgd : o.guard = none) (s x : Operand)
    (ho : o.op = .call { callee := .builtin .append, args := #[s, x], argTypes := #[55, 9] })
    {base : Nat} {v : Value} {X : List UInt8} (h : Br w base v X) (hb : base ≤ w.heap.size) (Y : List UInt8) (hl : X.length + Y.length ≤ 1000000000)
    (v1 : a.eval s = v) (v2 : a.eval x = .string (str Y))
    (hK : ∀ v' w', Br w' base v' (X ++ Y) → Below base w w' → wpList Try.prog ops Q rest (a.put o.dst v') w') : wpList Try.prog ops Q (o :: rest) a w := by
  obtain ⟨v', w', hr, h2, h3⟩ := h.appS hb Y hl o.type
  refine wpList_plain hgd fun K hk => ?_
  unfold Oper.wp execOp
  simp only [ho, resolve, invoke, builtin, Sem.run_bind, Sem.run_pure, Result.andThen_ok, List.map_toArray, List.map_cons, List.map_nil, v1, v2, hr]
  exact hk _ _ (hK v' w' h2 h3)
theorem one_at (w : World) (n : Int) (t : TypeId) : (w.alloc (.cells #[.int .u8 n] t)).cell? ((⟨w.heap.size, 0, none⟩ : Addr).add 0) = some (.int .u8 n) := by
  rw [WideShapes.add_plain, Nat.zero_add, World.cell?_alloc_new]
  rfl
theorem Mod.below_of {base : Nat} {w0 w w' : World} (h : Mod [] w0 w) (k : Below base w w') (hb : w0.heap.size ≤ base) : Mod [] w0 w' :=
  ⟨k.os.trans h.os, k.tape.trans h.tape, k.output.trans h.output, Nat.le_trans h.size k.size, fun i hi hn => (k.block i (by omega)).trans (h.block i hi hn)⟩
end Go.Proofs.Ytacmidlhfcnkiaa
