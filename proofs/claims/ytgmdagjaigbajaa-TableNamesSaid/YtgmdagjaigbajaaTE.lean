/- Layer 12: rows of the table's words: a word as cells, rows of one's own, an append, a word that is read, words compared. Condition: rows of at most 1000000 words. -/
import Derived.Test.YtgmdagjaigbajaaTC
namespace Go.Proofs.Ytgmdagjaigbajaa
open Go.RowKit
set_option linter.unusedVariables false

/-- A word as five cells, and as a value. -/
def enV (x : En) : List Value := [.string (str x.s), .int .i64 x.k, .int .i64 (x.n : Int), .bool x.now, .bool x.only]
def buV (x : En) : Value := .agg #[.string (str x.s), .int .i64 x.k, .int .i64 (x.n : Int), .bool x.now, .bool x.only]
def rowE (X : List En) : List Value := X.flatMap enV
theorem rowE_len (X : List En) : (rowE X).length = X.length * 5 := by
  induction X with
  | nil => rfl
  | cons x r ih => simp only [rowE, List.flatMap_cons, List.length_append, List.length_cons] at *; rw [ih]; simp [enV]; omega
theorem rowE_app (X Y : List En) : rowE (X ++ Y) = rowE X ++ rowE Y := by simp [rowE]
theorem rowE_one (x : En) : rowE [x] = enV x := by simp [rowE]
theorem rowE_get (X : List En) (i : Nat) (h : i < X.length) (c : Nat) (hc : c < 5) : (rowE X)[i * 5 + c]? = (enV X[i])[c]? := by
  have e : X = X.take i ++ (X[i] :: X.drop (i + 1)) := by rw [← List.drop_eq_getElem_cons h, List.take_append_drop]
  have hl : (X.take i).length = i := by rw [List.length_take]; omega
  have e2 : rowE X = rowE (X.take i) ++ (enV X[i] ++ rowE (X.drop (i + 1))) := by
    have e3 := congrArg rowE e
    rw [rowE_app] at e3
    rw [e3]
    congr 1
  rw [e2, List.getElem?_append_right (by rw [rowE_len, hl]; omega), rowE_len, hl, List.getElem?_append_left (by simp [enV]; omega), Nat.add_sub_cancel_left]
theorem enV_cells (X : List En) : ∀ u ∈ rowE X, u.oneCell' = true := fun u hu => by
  obtain ⟨x, _, hx⟩ := List.mem_flatMap.1 hu
  simp [enV] at hx
  rcases hx with rfl | rfl | rfl | rfl | rfl <;> rfl
/-- v is a row of words of one's own, nil or in a block from base on. -/
def Er (w : World) (base : Nat) (v : Value) (X : List En) : Prop := w.ownsRow base 24 5 v X.length (rowE X)
theorem Er.nil (w : World) (base : Nat) : Er w base (.slice none 0 0) [] := ⟨rfl, .inl ⟨rfl, rfl⟩⟩
theorem Er.far {w w' : World} {base : Nat} {v : Value} {X : List En} (h : Er w base v X) (k : Mod [] w w') : Er w' base v X := by
  refine ⟨h.1, h.2.elim Or.inl fun ⟨g, cap, cur, h1, h2, h3, h4⟩ => Or.inr ⟨g, cap, cur, h1, h2, ?_, h4⟩⟩
  rw [k.block g (Array.getElem?_eq_some_iff.1 h3).1 (by simp)]
  exact h3
theorem Er.own {w : World} {base : Nat} {v : Value} {X : List En} (h : Er w base v X) : ∀ g, v.ownBlock = some g → base ≤ g := fun g hg => by
  rcases h.2 with ⟨rfl, _⟩ | ⟨g', cap, cur, rfl, hb, _⟩
  · cases hg
  · have : g' = g := by simpa [Value.ownBlock] using hg
    omega
theorem infoEn : (Try.prog.info? 24).map (fun i => (i.zero, i.size, i.bytes)) = some (some (.agg #[.string ⟨#[]⟩, .int .i64 0, .int .i64 0, .bool false, .bool false]), 5, 40) := by kernel_rfl
theorem Er.app1 {w : World} {base : Nat} {v : Value} {X : List En} (h : Er w base v X) (hb : base ≤ w.heap.size) (hl : X.length ≤ 1000000) (ty : TypeId) (a : Addr) (cp : Nat) (x : En) (hc : ∀ j u, (enV x)[j]? = some u → w.cell? (a.add j) = some u) :
    ∃ v' w', (Builtin.append_ #[27, 27] ty #[v, .slice (some a) 1 cp]).run Try.prog w = .ok v' w' ∧ Er w' base v' (X ++ [x]) ∧ Mod v.ownBlock.toList w w' ∧ (v'.ownBlock = v.ownBlock ∨ v'.ownBlock = some w.heap.size) := by
  obtain ⟨i, hi, hz0, hz1, hz2⟩ := info_parts infoEn
  have hm : maxLen = 9223372036854775807 := rfl
  obtain ⟨v', w', h1, h2, h3, _, h5⟩ := run_append_own_at (P := Try.prog) (w := w) base 27 ty 24 i _ 5 40 Try.underlying27 hi hz0 hz1 hz2 rfl (by decide) _ _ _ h a 1 cp (enV x) (by simp [enV]) hc (by rw [← rowE_one]; exact enV_cells [x]) (by omega) (by omega) hb
  refine ⟨v', w', h1, ?_, Mod.of_grown h3 (by simp), h5⟩
  unfold Er
  rw [show (X ++ [x]).length = X.length + 1 by simp, rowE_app, rowE_one]
  exact h2
theorem wpList_appE {w : World} {ops : Array Oper} {rest : List Oper} {o : Oper} {a : Act} {Q : Exit → Act → World → Prop} (hgd : o.guard = none) (s x : Operand)
    (ho : o.op = .call { callee := .builtin .append, args := #[s, x], argTypes := #[27, 27] })
    {base : Nat} {v : Value} {X : List En} (h : Er w base v X) (hb : base ≤ w.heap.size) (hl : X.length ≤ 1000000) (b : Addr) (cp : Nat) (c : En) (hc : ∀ j u, (enV c)[j]? = some u → w.cell? (b.add j) = some u)
    (v1 : a.eval s = v) (v2 : a.eval x = .slice (some b) 1 cp)
    (hK : ∀ v' w', Er w' base v' (X ++ [c]) → Mod v.ownBlock.toList w w' → (v'.ownBlock = v.ownBlock ∨ v'.ownBlock = some w.heap.size) → wpList Try.prog ops Q rest (a.put o.dst v') w') : wpList Try.prog ops Q (o :: rest) a w := by
  obtain ⟨v', w', hr, h2, h3, h4⟩ := h.app1 hb hl o.type b cp c hc
  refine wpList_plain hgd fun K hk => ?_
  unfold Oper.wp execOp
  simp only [ho, resolve, invoke, builtin, Sem.run_bind, Sem.run_pure, Result.andThen_ok, List.map_toArray, List.map_cons, List.map_nil, v1, v2, hr]
  exact hk _ _ (hK v' w' h2 h3 h4)
theorem en_new (w : World) (x : En) (t : TypeId) : ∀ j u, (enV x)[j]? = some u → (w.alloc (.cells #[.string (str x.s), .int .i64 x.k, .int .i64 (x.n : Int), .bool x.now, .bool x.only] t)).cell? ((⟨w.heap.size, 0, none⟩ : Addr).add j) = some u := fun j u hj => by
  rw [WideShapes.add_plain, Nat.zero_add, World.cell?_alloc_new, ← hj]
  simp [enV]
/-- The words lie where a slice begins. -/
def EnAt (w : World) (A : Option Addr) (X : List En) : Prop := ∀ j (hj : j < X.length), ∃ b, A = some ⟨b, 0, none⟩ ∧ w.cell? ⟨b, j * 5, none⟩ = some (.string (str X[j].s)) ∧ w.cell? ⟨b, j * 5 + 1, none⟩ = some (.int .i64 X[j].k) ∧ w.cell? ⟨b, j * 5 + 2, none⟩ = some (.int .i64 (X[j].n : Int)) ∧ w.cell? ⟨b, j * 5 + 3, none⟩ = some (.bool X[j].now) ∧ w.cell? ⟨b, j * 5 + 4, none⟩ = some (.bool X[j].only)
theorem EnAt.far {w w' : World} {A : Option Addr} {X : List En} (h : EnAt w A X) (m : Mod [] w w') : EnAt w' A X := fun j hj => by
  obtain ⟨b, e, h0, h1, h2, h3, h4⟩ := h j hj
  exact ⟨b, e, m.cell (by simp) h0, m.cell (by simp) h1, m.cell (by simp) h2, m.cell (by simp) h3, m.cell (by simp) h4⟩
theorem Er.at {w : World} {base : Nat} {v : Value} {X : List En} (h : Er w base v X) : ∃ A c, v = .slice A X.length c ∧ EnAt w A X := by
  rcases h.2 with ⟨rfl, h0⟩ | ⟨g, cap, cur, rfl, h2, h3, h4⟩
  · exact ⟨none, 0, by rw [h0], fun j hj => by omega⟩
  · refine ⟨_, cap, rfl, fun j hj => ⟨g, rfl, ?_⟩⟩
    have hown : w.ownsRow base 24 5 (.slice (some ⟨g, 0, none⟩) X.length cap) X.length (rowE X) := h
    have get : ∀ c, c < 5 → w.cell? ⟨g, j * 5 + c, none⟩ = (enV X[j])[c]? := fun c hc => by
      rw [hown.cellAt (j * 5 + c) (by omega), rowE_get X j hj c hc]
    exact ⟨get 0 (by omega), get 1 (by omega), get 2 (by omega), get 3 (by omega), get 4 (by omega)⟩
set_option maxRecDepth 100000 in
theorem eq_en (s t : ByteArray) (a c : Int) (a2 c2 : Int) (b d b2 d2 : Bool) (w : World) : (Op.equalIn 10000 24 (.agg #[.string s, .int .i64 a, .int .i64 a2, .bool b, .bool b2]) (.agg #[.string t, .int .i64 c, .int .i64 c2, .bool d, .bool d2])).run Try.prog w = .ok (decide (s = t) && (a == c && (a2 == c2 && (b == d && b2 == d2)))) w := by
  have u3 := Try.underlying3
  have a3 := Try.isAgg3
  have z3 := Try.sizeOf3
  have u9 := Try.underlying9
  have a9 := Try.isAgg9
  have z9 := Try.sizeOf9
  have u4 := Try.underlying4
  have a4 := Try.isAgg4
  have z4 := Try.sizeOf4
  have hS : Try.prog.underlying 24 = some (.struct (Try.prog.fieldsOf 24)) := by kernel_rfl
  have hp : Try.prog.stoodInHeld 24 = false := by kernel_rfl
  rw [show (10000 : Nat) = 9999 + 1 from rfl, run_equalIn_agg w 9999 24 _ _ hS hp]
  simp only [Program.fieldsOf, Try.underlying24]
  go_simp
  by_cases h0 : s = t
  · subst h0
    by_cases h1 : a = c <;> by_cases h2 : a2 = c2 <;> by_cases h3 : b = d <;> by_cases h4 : b2 = d2 <;> simp [h1, h2, h3, h4]
  · have h0' : ¬ s.toList = t.toList := fun e => h0 (toList_inj9 e)
    by_cases h1 : a = c <;> by_cases h2 : a2 = c2 <;> by_cases h3 : b = d <;> by_cases h4 : b2 = d2 <;> simp [h0, h0', h1, h2, h3, h4]
@[go_sem ↓] theorem run_en_eql (s t : ByteArray) (a c : Int) (a2 c2 : Int) (b d b2 d2 : Bool) (w : World) : (binOp .eql 24 (.agg #[.string s, .int .i64 a, .int .i64 a2, .bool b, .bool b2]) (.agg #[.string t, .int .i64 c, .int .i64 c2, .bool d, .bool d2])).run Try.prog w = .ok (.bool (decide (s = t) && (a == c && (a2 == c2 && (b == d && b2 == d2))))) w := by
  rw [run_eql_struct, eq_en]; rfl
@[go_sem ↓] theorem run_en_neq (s t : ByteArray) (a c : Int) (a2 c2 : Int) (b d b2 d2 : Bool) (w : World) : (binOp .neq 24 (.agg #[.string s, .int .i64 a, .int .i64 a2, .bool b, .bool b2]) (.agg #[.string t, .int .i64 c, .int .i64 c2, .bool d, .bool d2])).run Try.prog w = .ok (.bool (!(decide (s = t) && (a == c && (a2 == c2 && (b == d && b2 == d2)))))) w := by
  rw [run_neq_struct, eq_en]; rfl
@[go_sem ↓] theorem guard_en (op : BinOp) (x y : Operand) (xs ys : Array Value) (w : World) : (eqGuard op 24 x y (.agg xs) (.agg ys)).run Try.prog w = .ok () w :=
  run_eqGuard_agg w op 24 x y xs ys (by kernel_rfl)
end Go.Proofs.Ytgmdagjaigbajaa
