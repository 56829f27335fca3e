/- Layer 8: an input that a law made for itself, beside a row of texts and a row of places of its own. Condition: the rows are short of 1000000000. -/
import Derived.Test.YtmbcjphgjdffmaaS8J
import Derived.Test.YtmbcjphgjdffmaaS8L
namespace Go.Proofs.Ytmbcjphgjdffmaa
open Go.RowKit
set_option linter.unusedVariables false

def intV (l : List Nat) : List Value := l.map fun i : Nat => Value.int .i64 (i : Int)
/-- v is a row of numbers of one's own. -/
def Ir (w : World) (base : Nat) (v : Value) (Y : List Nat) : Prop := w.ownsRow base 3 1 v Y.length (intV Y)
theorem Ir.nil (w : World) (base : Nat) : Ir w base (.slice none 0 0) [] := ⟨rfl, .inl ⟨rfl, rfl⟩⟩
theorem infoInt8 : (Try.prog.info? 3).map (fun i => (i.zero, i.size, i.bytes)) = some (some (.int .i64 0), 1, 8) := by kernel_rfl
theorem Ir.app {w : World} {base : Nat} {v : Value} {Y : List Nat} (h : Ir w base v Y) (hb : base ≤ w.heap.size) (hl : Y.length ≤ 1000000000) (ty : TypeId) (a : Addr) (cp : Nat) (c : Nat) (hc : w.cell? (a.add 0) = some (.int .i64 (c : Int))) :
    ∃ v' w', (Builtin.append_ #[36, 36] ty #[v, .slice (some a) 1 cp]).run Try.prog w = .ok v' w' ∧ Ir w' base v' (Y ++ [c]) ∧ Mod v.ownBlock.toList w w' ∧ (v'.ownBlock = v.ownBlock ∨ v'.ownBlock = some w.heap.size) := by
  obtain ⟨i, hi, hz0, hz1, hz2⟩ := info_parts infoInt8
  have hm : maxLen = 9223372036854775807 := rfl
  obtain ⟨v', w', h1, h2, h3, _, h5⟩ := run_append_own_at (P := Try.prog) w base 36 ty 3 i (.int .i64 0) 1 8 Try.underlying36 hi hz0 hz1 hz2 rfl (by decide) _ _ _ h a 1 cp (intV [c]) (by simp [intV])
    (fun j u hj => by
      have hj' := (List.getElem?_eq_some_iff.1 hj).1
      have : j = 0 := by simpa [intV] using hj'
      subst this
      rw [hc, ← hj]; simp [intV]) (fun u hu => by obtain ⟨x, _, rfl⟩ := List.mem_map.1 hu; rfl) (by omega) (by omega) hb
  refine ⟨v', w', h1, ?_, Mod.of_grown h3 (by simp), h5⟩
  unfold Ir
  have e : (Y ++ [c]).length = Y.length + 1 := by simp
  have e2 : intV (Y ++ [c]) = intV Y ++ intV [c] := by simp [intV]
  rw [e, e2]
  exact h2
theorem Ir.opened {w : World} {base : Nat} {v : Value} {Y : List Nat} (h : Ir w base v Y) : ∃ A cap, v = .slice A Y.length cap ∧ ∀ j (hj : j < Y.length), ∃ b, A = some ⟨b, 0, none⟩ ∧ w.cell? ⟨b, j, none⟩ = some (.int .i64 (Y[j] : Int)) := by
  rcases h.2 with ⟨rfl, h0⟩ | ⟨g, cap, cur, rfl, h2, h3, h4⟩
  · exact ⟨none, 0, by rw [h0], fun j hj => by omega⟩
  · refine ⟨some ⟨g, 0, none⟩, cap, rfl, fun j hj => ⟨g, rfl, ?_⟩⟩
    have hown : w.ownsRow base 3 1 (.slice (some ⟨g, 0, none⟩) Y.length cap) Y.length (intV Y) := h
    rw [hown.cellAt j (by omega)]
    simp [intV, hj]
/-- An input made since w0, a row of texts, a row of places beside it. -/
structure Deep (w0 w : World) (p : Nat) (S : List Nat) (L : List Sc) (M : Nat) (v : Value) (X : List ByteArray) (u : Value) (Y : List Nat) : Prop where
  pi : Pile w0 w p S L M v X
  ru : Ir w w0.heap.size u Y
  du : ∀ g, u.ownBlock = some g → g ∉ S
  dd : ∀ g, u.ownBlock = some g → v.ownBlock ≠ some g
theorem Deep.nil {w0 w : World} {p : Nat} {S : List Nat} {L : List Sc} {M : Nat} (h : Mine w0 w p S L M) : Deep w0 w p S L M (.slice none 0 0) [] (.slice none 0 0) [] := ⟨Pile.nil h, Ir.nil _ _, fun g hg => by simp [Value.ownBlock] at hg, fun g hg => by simp [Value.ownBlock] at hg⟩
theorem Deep.far {w0 w w' : World} {p : Nat} {S : List Nat} {L : List Sc} {M : Nat} {v u : Value} {X : List ByteArray} {Y : List Nat} (h : Deep w0 w p S L M v X u Y) (k : Mod [] w w') : Deep w0 w' p S L M v X u Y := ⟨h.pi.far k, row_modB h.ru k (by simp), h.du, h.dd⟩
theorem Deep.turn {w0 w w' : World} {p : Nat} {S S' : List Nat} {L L' : List Sc} {M M' : Nat} {v u : Value} {X : List ByteArray} {Y : List Nat} (h : Deep w0 w p S L M v X u Y) (k : Mine w0 w' p S' L' M') (t : Turn S S' w w') : Deep w0 w' p S' L' M' v X u Y :=
  ⟨h.pi.turn k t, row_modB h.ru t.1 h.du, fun g hg hs => (t.2 g hs).elim (h.du g hg) fun hl => by
    have := (World.ownsRow.lt h.ru g hg).2
    omega, h.dd⟩
def Deeps (w0 : World) (p : Nat) (r : Value) (L : List Sc) (M : Nat) (v : Value) (X : List ByteArray) (u : Value) (Y : List Nat) (e : Ending) (w' : World) : Prop := e = .returned r ∧ ∃ S', Deep w0 w' p S' L M v X u Y
theorem Deep.of {w0 w : World} {p : Nat} {S : List Nat} {L L' : List Sc} {M M' : Nat} {v u r : Value} {X : List ByteArray} {Y : List Nat} {f : FuncId} {xs : Array Value} (h : Deep w0 w p S L M v X u Y) (k : Calls Try.prog f xs w (Plays p S r L' M' w)) : Calls Try.prog f xs w (Deeps w0 p r L' M' v X u Y) := by
  refine (h.pi.me.of k).mono ?_
  rintro e w' ⟨rfl, S', h1, h2⟩
  exact ⟨rfl, S', h.turn h1 h2⟩
theorem Deep.appT {w0 w w' : World} {p : Nat} {S : List Nat} {L : List Sc} {M : Nat} {v v' u : Value} {X X' : List ByteArray} {Y : List Nat} (h : Deep w0 w p S L M v X u Y) (hr : Sr w' w0.heap.size v' X') (hm : Mod v.ownBlock.toList w w') (ho : v'.ownBlock = v.ownBlock ∨ v'.ownBlock = some w.heap.size) : Deep w0 w' p S L M v' X' u Y := by
  refine ⟨h.pi.app hr hm ho, row_modB h.ru hm fun g hg hv => h.dd g hg (by simpa using hv), h.du, fun g hg hv => ?_⟩
  rcases ho with e | e
  · exact h.dd g hg (by rw [← e]; exact hv)
  · rw [e] at hv
    injection hv with hv
    have := (World.ownsRow.lt h.ru g hg).2
    omega
theorem Deep.appI {w0 w w' : World} {p : Nat} {S : List Nat} {L : List Sc} {M : Nat} {v u u' : Value} {X : List ByteArray} {Y Y' : List Nat} (h : Deep w0 w p S L M v X u Y) (hr : Ir w' w0.heap.size u' Y') (hm : Mod u.ownBlock.toList w w') (ho : u'.ownBlock = u.ownBlock ∨ u'.ownBlock = some w.heap.size) : Deep w0 w' p S L M v X u' Y' := by
  have hd : ∀ x ∈ S, x ∉ u.ownBlock.toList := fun x hx hv => h.du x (by simpa using hv) hx
  refine ⟨⟨⟨h.pi.me.i.mod hm hd, h.pi.me.m.then hm fun x hx => Or.inr ((World.ownsRow.lt h.ru x (by simpa using hx)).1), h.pi.me.n⟩, row_modB h.pi.row hm fun g hg hu => h.dd g (by simpa using hu) hg, h.pi.d⟩, hr, fun g hg hs => ?_, fun g hg hv => ?_⟩
  · rcases ho with e | e
    · exact h.du g (by rw [← e]; exact hg) hs
    · rw [e] at hg
      injection hg with hg
      have := h.pi.me.i.lt g hs
      omega
  · rcases ho with e | e
    · exact h.dd g (by rw [← e]; exact hg) hv
    · rw [e] at hg
      injection hg with hg
      have := (World.ownsRow.lt h.pi.row g hv).2
      omega
theorem wpList_appD {w : World} {ops : Array Oper} {rest : List Oper} {o : Oper} {a : Act} {Q : Exit → Act → World → Prop} (hgd : o.guard = none) (s x : Operand)
    (ho : o.op = .call { callee := .builtin .append, args := #[s, x], argTypes := #[31, 31] })
    {w0 : World} {p : Nat} {S : List Nat} {L : List Sc} {M : Nat} {v u : Value} {X : List ByteArray} {Y : List Nat} (h : Deep w0 w p S L M v X u Y) (hl : X.length ≤ 1000000000) (b : Addr) (cp : Nat) (c : ByteArray) (hc : w.cell? (b.add 0) = some (.string c))
    (v1 : a.eval s = v) (v2 : a.eval x = .slice (some b) 1 cp)
    (hK : ∀ v' w', Deep w0 w' p S L M v' (X ++ [c]) u Y → wpList Try.prog ops Q rest (a.put o.dst v') w') : wpList Try.prog ops Q (o :: rest) a w := by
  obtain ⟨v', w', hr, h2, h3, h4⟩ := h.pi.row.app2 h.pi.me.m.size hl o.type b cp c hc
  refine wpList_plain hgd fun K hk => ?_
  unfold Oper.wp execOp
  simp only [ho, resolve, invoke, builtin, Sem.run_bind, Sem.run_pure, Result.andThen_ok, List.map_toArray, List.map_cons, List.map_nil, v1, v2, hr]
  exact hk _ _ (hK v' w' (h.appT h2 h3 h4))
theorem wpList_appI {w : World} {ops : Array Oper} {rest : List Oper} {o : Oper} {a : Act} {Q : Exit → Act → World → Prop} (hgd : o.guard = none) (s x : Operand)
    (ho : o.op = .call { callee := .builtin .append, args := #[s, x], argTypes := #[36, 36] })
    {w0 : World} {p : Nat} {S : List Nat} {L : List Sc} {M : Nat} {v u : Value} {X : List ByteArray} {Y : List Nat} (h : Deep w0 w p S L M v X u Y) (hl : Y.length ≤ 1000000000) (b : Addr) (cp : Nat) (c : Nat) (hc : w.cell? (b.add 0) = some (.int .i64 (c : Int)))
    (v1 : a.eval s = u) (v2 : a.eval x = .slice (some b) 1 cp)
    (hK : ∀ u' w', Deep w0 w' p S L M v X u' (Y ++ [c]) → wpList Try.prog ops Q rest (a.put o.dst u') w') : wpList Try.prog ops Q (o :: rest) a w := by
  obtain ⟨v', w', hr, h2, h3, h4⟩ := h.ru.app h.pi.me.m.size hl o.type b cp c hc
  refine wpList_plain hgd fun K hk => ?_
  unfold Oper.wp execOp
  simp only [ho, resolve, invoke, builtin, Sem.run_bind, Sem.run_pure, Result.andThen_ok, List.map_toArray, List.map_cons, List.map_nil, v1, v2, hr]
  exact hk _ _ (hK v' w' (h.appI h2 h3 h4))
theorem one_int (w : World) (c : Int) (t : TypeId) : (w.alloc (.cells #[.int .i64 c] t)).cell? ((⟨w.heap.size, 0, none⟩ : Addr).add 0) = some (.int .i64 c) := by
  rw [WideShapes.add_plain, Nat.zero_add, World.cell?_alloc_new]
  rfl
theorem Deep.cellI {w0 w : World} {p : Nat} {S : List Nat} {L : List Sc} {M : Nat} {v : Value} {X : List ByteArray} {A : Option Addr} {n cap : Nat} {Y : List Nat} (h : Deep w0 w p S L M v X (.slice A n cap) Y) (j : Nat) (hj : j < Y.length) : ∃ b, A = some ⟨b, 0, none⟩ ∧ w.cell? ⟨b, j, none⟩ = some (.int .i64 (Y[j] : Int)) := by
  obtain ⟨A', cap', e, hc⟩ := h.ru.opened
  injection e with e1 e2 e3
  subst e1
  exact hc j hj
end Go.Proofs.Ytmbcjphgjdffmaa
