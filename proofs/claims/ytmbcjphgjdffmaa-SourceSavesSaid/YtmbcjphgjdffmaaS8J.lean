/- Layer 8: an input that a law made for itself, beside a row of texts of its own. Condition: the row is short of 1000000000 texts. -/
import Derived.Test.YtmbcjphgjdffmaaS8I
import Derived.Test.YtmbcjphgjdffmaaSrow
import Derived.Maps.AppendAt
namespace Go.Proofs.Ytmbcjphgjdffmaa
open Go.RowKit
set_option linter.unusedVariables false

theorem row_modB {w w' : World} {S : List Nat} {base : Nat} {e : TypeId} {k : Nat} {v : Value} {n : Nat} {xs : List Value} (h : w.ownsRow base e k v n xs) (m : Mod S w w') (hS : ∀ g, v.ownBlock = some g → g ∉ S) : w'.ownsRow base e k v n xs := by
  refine ⟨h.1, h.2.elim Or.inl fun ⟨g, cap, cur, h1, h2, h3, h4⟩ => Or.inr ⟨g, cap, cur, h1, h2, ?_, h4⟩⟩
  subst h1
  rw [m.block g (Array.getElem?_eq_some_iff.1 h3).1 (hS g rfl)]
  exact h3
/-- One text more, and where the row then lies. -/
theorem Sr.app2 {w : World} {base : Nat} {v : Value} {X : List ByteArray} (h : Sr w base v X) (hb : base ≤ w.heap.size) (hl : X.length ≤ 1000000000) (ty : TypeId) (a : Addr) (cp : Nat) (c : ByteArray) (hc : w.cell? (a.add 0) = some (.string c)) :
    ∃ v' w', (Builtin.append_ #[31, 31] ty #[v, .slice (some a) 1 cp]).run Try.prog w = .ok v' w' ∧ Sr w' base v' (X ++ [c]) ∧ Mod v.ownBlock.toList w w' ∧ (v'.ownBlock = v.ownBlock ∨ v'.ownBlock = some w.heap.size) := by
  obtain ⟨i, hi, hz0, hz1, hz2⟩ := info_parts Try.infoStr
  have hm : maxLen = 9223372036854775807 := rfl
  obtain ⟨v', w', h1, h2, h3, _, h5⟩ := run_append_own_at (P := Try.prog) w base 31 ty 9 i (.string ⟨#[]⟩) 1 16 Try.underlying31 hi hz0 hz1 hz2 rfl (by decide) _ _ _ h a 1 cp (strV [c]) (by simp [strV])
    (fun j u hj => by
      have hj' := (List.getElem?_eq_some_iff.1 hj).1
      have : j = 0 := by simpa [strV] using hj'
      subst this
      rw [hc, ← hj]; simp [strV]) (fun u hu => by obtain ⟨x, _, rfl⟩ := List.mem_map.1 hu; rfl) (by omega) (by omega) hb
  refine ⟨v', w', h1, ?_, Mod.of_grown h3 (by simp), h5⟩
  unfold Sr
  have e : (X ++ [c]).length = X.length + 1 := by simp
  have e2 : strV (X ++ [c]) = strV X ++ strV [c] := by simp [strV]
  rw [e, e2]
  exact h2
/-- An input made since w0, and a row of texts beside it. -/
structure Pile (w0 w : World) (p : Nat) (S : List Nat) (L : List Sc) (M : Nat) (v : Value) (X : List ByteArray) : Prop where
  me : Mine w0 w p S L M
  row : Sr w w0.heap.size v X
  d : ∀ g, v.ownBlock = some g → g ∉ S
theorem Pile.nil {w0 w : World} {p : Nat} {S : List Nat} {L : List Sc} {M : Nat} (h : Mine w0 w p S L M) : Pile w0 w p S L M (.slice none 0 0) [] := ⟨h, Sr.nil _ _, fun g hg => by simp [Value.ownBlock] at hg⟩
theorem Pile.far {w0 w w' : World} {p : Nat} {S : List Nat} {L : List Sc} {M : Nat} {v : Value} {X : List ByteArray} (h : Pile w0 w p S L M v X) (k : Mod [] w w') : Pile w0 w' p S L M v X := ⟨h.me.far k, h.row.far k, h.d⟩
theorem Pile.turn {w0 w w' : World} {p : Nat} {S S' : List Nat} {L L' : List Sc} {M M' : Nat} {v : Value} {X : List ByteArray} (h : Pile w0 w p S L M v X) (k : Mine w0 w' p S' L' M') (t : Turn S S' w w') : Pile w0 w' p S' L' M' v X :=
  ⟨k, row_modB h.row t.1 h.d, fun g hg hs => (t.2 g hs).elim (h.d g hg) fun hl => by
    have := (World.ownsRow.lt h.row g hg).2
    omega⟩
/-- f answers v; the input then has these sources, and the row is as it was. -/
def Piles (w0 : World) (p : Nat) (u : Value) (L : List Sc) (M : Nat) (v : Value) (X : List ByteArray) (e : Ending) (w' : World) : Prop := e = .returned u ∧ ∃ S', Pile w0 w' p S' L M v X
theorem Pile.of {w0 w : World} {p : Nat} {S : List Nat} {L L' : List Sc} {M M' : Nat} {v u : Value} {X : List ByteArray} {f : FuncId} {xs : Array Value} (h : Pile w0 w p S L M v X) (k : Calls Try.prog f xs w (Plays p S u L' M' w)) : Calls Try.prog f xs w (Piles w0 p u L' M' v X) := by
  refine (h.me.of k).mono ?_
  rintro e w' ⟨rfl, S', h1, h2⟩
  exact ⟨rfl, S', h.turn h1 h2⟩
theorem Pile.app {w0 w w' : World} {p : Nat} {S : List Nat} {L : List Sc} {M : Nat} {v v' : Value} {X Y : List ByteArray} (h : Pile w0 w p S L M v X) (hr : Sr w' w0.heap.size v' Y) (hm : Mod v.ownBlock.toList w w') (ho : v'.ownBlock = v.ownBlock ∨ v'.ownBlock = some w.heap.size) : Pile w0 w' p S L M v' Y := by
  have hd : ∀ x ∈ S, x ∉ v.ownBlock.toList := fun x hx hv => h.d x (by simpa using hv) hx
  refine ⟨⟨h.me.i.mod hm hd, h.me.m.then hm fun x hx => Or.inr ((World.ownsRow.lt h.row x (by simpa using hx)).1), h.me.n⟩, hr, fun g hg hs => ?_⟩
  rcases ho with e | e
  · exact h.d g (by rw [← e]; exact hg) hs
  · rw [e] at hg
    injection hg with hg
    have := h.me.i.lt g hs
    omega
/-- The same, in the walk. -/
theorem wpList_appP {w : World} {ops : Array Oper} {rest : List Oper} {o : Oper} {a : Act} {Q : Exit → Act → World → Prop} (hgd : o.guard = none) (s x : Operand)
    (ho : o.op = .call { callee := .builtin .append, args := #[s, x], argTypes := #[31, 31] })
    {w0 : World} {p : Nat} {S : List Nat} {L : List Sc} {M : Nat} {v : Value} {X : List ByteArray} (h : Pile w0 w p S L M v X) (hl : X.length ≤ 1000000000) (b : Addr) (cp : Nat) (c : ByteArray) (hc : w.cell? (b.add 0) = some (.string c))
    (v1 : a.eval s = v) (v2 : a.eval x = .slice (some b) 1 cp)
    (hK : ∀ v' w', Pile w0 w' p S L M v' (X ++ [c]) → wpList Try.prog ops Q rest (a.put o.dst v') w') : wpList Try.prog ops Q (o :: rest) a w := by
  obtain ⟨v', w', hr, h2, h3, h4⟩ := h.row.app2 h.me.m.size hl o.type b cp c hc
  refine wpList_plain hgd fun K hk => ?_
  unfold Oper.wp execOp
  simp only [ho, resolve, invoke, builtin, Sem.run_bind, Sem.run_pure, Result.andThen_ok, List.map_toArray, List.map_cons, List.map_nil, v1, v2, hr]
  exact hk _ _ (hK v' w' (h.app h2 h3 h4))
theorem Pile.cell {w0 w : World} {p : Nat} {S : List Nat} {L : List Sc} {M : Nat} {A : Option Addr} {n cap : Nat} {X : List ByteArray} (h : Pile w0 w p S L M (.slice A n cap) X) (j : Nat) (hj : j < X.length) : ∃ b, A = some ⟨b, 0, none⟩ ∧ w.cell? ⟨b, j, none⟩ = some (.string X[j]) := by
  obtain ⟨A', cap', e, hc⟩ := h.row.opened
  injection e with e1 e2 e3
  subst e1
  exact hc j hj
/-- Where the reading is behind j words from place i on. -/
def placeW (T : List UInt8) (i : Nat) : Nat → Nat
  | 0 => i
  | j + 1 => (wordL T (placeW T i j : Int)).2
/-- The j words from place i on. -/
def wordsW (T : List UInt8) (i j : Nat) : List ByteArray := (List.range j).map fun k => str (wordL T (placeW T i k : Int)).1
theorem wordsW_len (T : List UInt8) (i j : Nat) : (wordsW T i j).length = j := by simp [wordsW]
theorem wordsW_snoc (T : List UInt8) (i j : Nat) : wordsW T i (j + 1) = wordsW T i j ++ [str (wordL T (placeW T i j : Int)).1] := by simp [wordsW, List.range_succ]
theorem wordsW_get (T : List UInt8) (i j k : Nat) (h : k < (wordsW T i j).length) : (wordsW T i j)[k] = str (wordL T (placeW T i k : Int)).1 := by simp [wordsW]
theorem placeW_le (T : List UInt8) (i : Nat) (h : i ≤ T.length) : ∀ j, placeW T i j ≤ T.length
  | 0 => h
  | j + 1 => upN_le _ _ _
end Go.Proofs.Ytmbcjphgjdffmaa
