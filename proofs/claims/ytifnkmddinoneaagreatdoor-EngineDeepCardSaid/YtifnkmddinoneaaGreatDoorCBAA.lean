/- General lemmas: the relation Ext between two worlds (new blocks only), a map with integer keys in the last block, and its look-up. No condition. Plain arithmetic on integers modulo 2 to the 64, their bits and quotients. No Go text is spoken of. What calls turn: blocks of a list, and new ones; rows of cells of the call's own; cells that lie where a slice begins. No condition. Layer 10: instructions in a row: their ways, what is reached, how many loops are open. No condition. Layer 10: numbers and instructions in memory; ways. Condition: indices are short of 1000000000. Layer 10: ways of an instruction, of the program and of the document; what an operation is. Condition: indices are short of 1000000000. Layer 10: the program's Loops. Condition: there are at most 1000000000 instructions. -/
import Derived.Test.YtifnkmddinoneaaGreatDoorChecked
import Derived.WalkKit
import Derived.WalkLawsBesides
import Derived.WalkSpells
import Derived.Lib.Hide
import Derived.Laws.OwnMore
import Derived.Laws.IdiomCopy
import Derived.Deep.RegionLaw
import Derived.Lib.SliceRun
import Derived.Maps.AppendAt
import Derived.Laws.MakeOwn
set_option maxRecDepth 100000
namespace Go.Proofs.YtifnkmddinoneaaGreatDoor
open Go.RowKit
set_option linter.unusedVariables false

/-- Nothing that was there in w has changed in w', and nothing new is frozen. -/
def Ext (w w' : World) : Prop := Below w.heap.size w w' ∧ ∀ p, w'.frozen? p = w.frozen? p
theorem Ext.refl (w : World) : Ext w w := ⟨Below.refl _ _, fun _ => rfl⟩
theorem Ext.trans {a b c : World} (h : Ext a b) (k : Ext b c) : Ext a c := ⟨Below.trans h.1 (Below.mono k.1 h.1.size), fun p => (k.2 p).trans (h.2 p)⟩
theorem Ext.drew {a b : World} (h : Ext a b) : Ext a b.drew := ⟨Below.drew h.1, h.2⟩
theorem Ext.cells {a b : World} (h : Ext a b) (c : Array Value) (t : TypeId) : Ext a (b.alloc (.cells c t)) := ⟨Below.alloc h.1 h.1.size _, fun p => (frozen?_alloc_cells b c t p).trans (h.2 p)⟩
def callVal (v : Value) (xs : Array Value) : Sem Next := do
  let d ← Deferred.ofValue v xs
  invoke d.target d.args
@[go_sem ↓] theorem execOp_call_val (a : Act) (dst : Option Tmp) (t : Tmp) (xs : Array Operand) (ats : Array TypeId) (ty : TypeId) (pos : String) (after : Array Edge) (guard : Option (Nat × Bool)) :
    execOp a.eval { dst, op := .call { callee := .value (.tmp t), args := xs, argTypes := ats }, type := ty, pos, after, guard } = callVal (a.eval (.tmp t)) (xs.map a.eval) := rfl
@[go_sem ↓] theorem callVal_func (f : FuncId) (p q xs : Array Value) : callVal (.func (.func f) p q) xs = callFunc f (p ++ xs ++ q) := rfl
theorem alloc_set (w : World) (o o' : Obj) : ({ w.alloc o with heap := (w.alloc o).heap.setIfInBounds w.heap.size o' } : World) = w.alloc o' := by
  have h : (w.alloc o).heap.setIfInBounds w.heap.size o' = (w.alloc o').heap := by
    show (w.heap.push o).setIfInBounds w.heap.size o' = w.heap.push o'
    apply Array.toList_inj.1
    simp
  rw [h]; rfl
theorem put_new {P : Program} {t k e : TypeId} (ht : P.underlying t = some (.map k e)) (hk : P.underlying k = some (.int .i64)) (w : World) (es : Array MapEntry) (c : Nat) (n : Int) (v : Value)
    (h : Instr.findNow (.int .i64) (.int .i64 n) es.toList 0 = some none) :
    (Instr.mapUpdate t (.map (some w.heap.size)) (.int .i64 n) v).run P (w.alloc (.map es c)) = .ok () (w.alloc (.map (es.push ⟨.int .i64 n, v, c⟩) (c + 1))) := by
  have hb : (w.alloc (.map es c)).heap[w.heap.size]? = some (.map es c) := (MapKept.heap_alloc w _).1
  simp only [Instr.mapUpdate, Sem.run_bind, run_underlying ht, Result.andThen, MapKept.run_getObj_map hb, MapKept.run_checkKey hk (k := .int .i64 n) rfl, MapKept.run_findKey hk h, MapKept.run_setObj_map _ hb, alloc_set]
theorem get_found {P : Program} {t k e : TypeId} (ht : P.underlying t = some (.map k e)) (hk : P.underlying k = some (.int .i64)) {w : World} {b : Nat} {es : Array MapEntry} {c : Nat} (hb : w.heap[b]? = some (.map es c)) {n : Int} {i : Nat} {v : Value}
    (h : Instr.findNow (.int .i64) (.int .i64 n) es.toList 0 = some (some (i, v))) :
    (Instr.lookup t (.map (some b)) (.int .i64 n) true).run P w = .ok (.tuple #[v, .bool true]) w := by
  simp [Instr.lookup, run_underlying ht, MapKept.run_getObj_map hb, MapKept.run_checkKey hk (k := .int .i64 n) rfl, MapKept.run_findKey hk h, Result.andThen]
theorem get_none {P : Program} {t k e : TypeId} (ht : P.underlying t = some (.map k e)) (hk : P.underlying k = some (.int .i64)) {w : World} {b : Nat} {es : Array MapEntry} {c : Nat} (hb : w.heap[b]? = some (.map es c)) {n : Int} {z : Value} (hz : (zeroValue e).run P w = .ok z w)
    (h : Instr.findNow (.int .i64) (.int .i64 n) es.toList 0 = some none) :
    (Instr.lookup t (.map (some b)) (.int .i64 n) true).run P w = .ok (.tuple #[z, .bool false]) w := by
  simp [Instr.lookup, run_underlying ht, MapKept.run_getObj_map hb, MapKept.run_checkKey hk (k := .int .i64 n) rfl, MapKept.run_findKey hk h, hz, Result.andThen]
end Go.Proofs.YtifnkmddinoneaaGreatDoor
namespace Go.Proofs.YtifnkmddinoneaaGreatDoor
open Go.RowKit
set_option linter.unusedVariables false

def I64 (a : Int) : Prop := -9223372036854775808 ≤ a ∧ a ≤ 9223372036854775807
theorem i64_of_wf {a : Int} (h : (Lit.int .i64 a).wf = true) : I64 a := by
  simpa [I64, Lit.wf, IntKind.min, IntKind.max, IntKind.signed, IntKind.bits] using h
theorem i64_wrap (a : Int) : I64 (wrap64 a) := by unfold I64 wrap64; omega
theorem wrap_id {a : Int} (h : I64 a) : wrap64 a = a := IntWalk.wrap64_in a h
theorem u64_wrap (a : Int) : IntKind.u64.wrap a = a % 18446744073709551616 := by simp [IntKind.wrap, IntKind.bits, IntKind.signed]
def natOf (a : Int) : Nat := (IntKind.u64.wrap a).toNat
theorem natOf_is (a : Int) : IntKind.u64.wrap a = (natOf a : Int) := by unfold natOf; rw [u64_wrap]; omega
theorem ret_i64 {a b : Int} (h : a = b) : Ending.returned (.int .i64 a) = .returned (.int .i64 b) := by rw [h]
end Go.Proofs.YtifnkmddinoneaaGreatDoor
namespace Go.Proofs.YtifnkmddinoneaaGreatDoor
open Go.RowKit
set_option linter.unusedVariables false

/-- w' is w but for the blocks of S, and for new ones. -/
structure Mod (S : List Nat) (w w' : World) : Prop where
  os : w'.os = w.os
  tape : w'.tape = w.tape
  output : w'.output = w.output
  size : w.heap.size ≤ w'.heap.size
  block : ∀ k, k < w.heap.size → k ∉ S → w'.heap[k]? = w.heap[k]?
theorem Mod.refl (S : List Nat) (w : World) : Mod S w w := ⟨rfl, rfl, rfl, Nat.le_refl _, fun _ _ _ => rfl⟩
theorem Mod.then {S T : List Nat} {a b c : World} (h : Mod S a b) (k : Mod T b c) (hT : ∀ x ∈ T, x ∈ S ∨ a.heap.size ≤ x) : Mod S a c :=
  ⟨k.os.trans h.os, k.tape.trans h.tape, k.output.trans h.output, Nat.le_trans h.size k.size, fun i hi hs =>
    (k.block i (Nat.lt_of_lt_of_le hi h.size) (fun ht => (hT i ht).elim hs (by omega))).trans (h.block i hi hs)⟩
theorem Mod.trans {S : List Nat} {a b c : World} (h : Mod S a b) (k : Mod S b c) : Mod S a c := h.then k fun _ hx => Or.inl hx
theorem Mod.far {S : List Nat} {a b c : World} (h : Mod S a b) (k : Mod [] b c) : Mod S a c := h.then k (by simp)
theorem Mod.far1 {S : List Nat} {a b c : World} {p : Nat} (h : Mod S a b) (k : Mod [p] b c) (hp : a.heap.size ≤ p) : Mod S a c := h.then k (by simp; exact Or.inr hp)
theorem Mod.up {S T : List Nat} {a b : World} (h : Mod S a b) (hT : ∀ x ∈ S, x ∈ T) : Mod T a b := ⟨h.os, h.tape, h.output, h.size, fun k hk ht => h.block k hk fun hs => ht (hT k hs)⟩
theorem Mod.drew {S : List Nat} {a b : World} (h : Mod S a b) : Mod S a b.drew := ⟨h.os, h.tape, h.output, h.size, h.block⟩
theorem Mod.drewN {S : List Nat} {a b : World} (h : Mod S a b) (n : Nat) : Mod S a (b.drewN n) := by
  have k := below_drewN (Below.refl b.heap.size b) n
  exact h.then (S := S) (T := []) ⟨k.os, k.tape, k.output, k.size, fun i hi _ => k.block i hi⟩ (by simp)
theorem Mod.alloc {S : List Nat} {a b : World} (h : Mod S a b) (o : Obj) : Mod S a (b.alloc o) := by
  have k := Below.alloc (Below.refl b.heap.size b) (Nat.le_refl _) o
  exact h.then (T := []) ⟨k.os, k.tape, k.output, k.size, fun i hi _ => k.block i hi⟩ (by simp)
theorem Mod.set {S : List Nat} {a b : World} (h : Mod S a b) {x : Addr} (hx : x.block ∈ S ∨ a.heap.size ≤ x.block) (v : Value) : Mod S a (b.setCell x v) :=
  h.then (T := [x.block]) ⟨rfl, rfl, rfl, by simp [World.setCell], fun k _ h1 => Below.heap_setCell _ _ _ _ (by simpa [eq_comm] using h1)⟩ (by simpa using hx)
theorem Mod.sets {S : List Nat} {a b : World} (h : Mod S a b) {x : Nat} (hx : x ∈ S ∨ a.heap.size ≤ x) : ∀ (vs : List Value) (o : Nat), Mod S a (b.setCells x o vs) := by
  intro vs
  induction vs generalizing b with
  | nil => intro o; exact h
  | cons v r ih => intro o; exact ih (h.set (x := ⟨x, o, none⟩) hx v) (o + 1)
theorem Mod.below {a b : World} (h : Mod [] a b) : Below a.heap.size a b := ⟨h.os, h.tape, h.output, h.size, fun k hk => h.block k hk (by simp)⟩
theorem Mod.of_below {a b : World} (h : Below a.heap.size a b) : Mod [] a b := ⟨h.os, h.tape, h.output, h.size, fun k hk _ => h.block k hk⟩
theorem Mod.cell {S : List Nat} {a b : World} (h : Mod S a b) {x : Addr} {v : Value} (hx : x.block ∉ S) (hc : a.cell? x = some v) : b.cell? x = some v :=
  (World.cell?_of_block (h.block x.block (World.block_lt_of_cell? a x hc) hx)).trans hc
theorem Mod.frozen {S : List Nat} {a b : World} (h : Mod S a b) {x : Addr} (hx : x.block ∉ S) (hl : x.block < a.heap.size) : b.frozen? x = a.frozen? x :=
  World.frozen?_of_block (h.block x.block hl hx)
theorem Mod.of_grown {a b : World} {r : Option Nat} (h : a.grownBy b r) {S : List Nat} (hr : ∀ k, r = some k → k ∈ S) : Mod S a b :=
  ⟨h.os, h.tape, h.output, h.size, fun k hk hs => h.block k hk fun e => hs (hr k e.symm)⟩
def cellsI (l : List Int) : List Value := l.map (Value.int .i64)
theorem cellsI_len (l : List Int) : (cellsI l).length = l.length := by simp [cellsI]
theorem cellsI_get (l : List Int) (i : Nat) (h : i < l.length) : (cellsI l)[i]? = some (.int .i64 l[i]) := by simp [cellsI, h]
def Sl (w : World) (A : Option Addr) (X : List Int) : Prop := ∀ j (hj : j < X.length), ∃ b off, A = some ⟨b, off, none⟩ ∧ w.cell? ⟨b, off + j, none⟩ = some (.int .i64 X[j])
theorem Sl.nil (w : World) (A : Option Addr) : Sl w A [] := fun j hj => absurd hj (by simp)
theorem Sl.mod {S : List Nat} {w w' : World} {A : Option Addr} {X : List Int} (h : Sl w A X) (k : Mod S w w') (hS : ∀ a, A = some a → a.block ∉ S) : Sl w' A X := fun j hj => by
  obtain ⟨b, off, rfl, hc⟩ := h j hj
  exact ⟨b, off, rfl, k.cell (show b ∉ S from hS ⟨b, off, none⟩ rfl) hc⟩
theorem Sl.far {w w' : World} {A : Option Addr} {X : List Int} (h : Sl w A X) (k : Mod [] w w') : Sl w' A X := h.mod k (by simp)
theorem Sl.src {w : World} {a : Addr} {X : List Int} (h : Sl w (some a) X) : ∀ j v, (cellsI X)[j]? = some v → w.cell? (a.add j) = some v := fun j v hv => by
  have hj : j < X.length := by
    have := (List.getElem?_eq_some_iff.1 hv).1
    rwa [cellsI_len] at this
  obtain ⟨b, off, e, hc⟩ := h j hj
  injection e with e
  subst e
  have hadd : (⟨b, off, none⟩ : Addr).add j = ⟨b, off + j, none⟩ := by unfold Addr.add; split <;> simp_all
  rw [hadd, hc, ← hv, cellsI_get X j hj]
theorem one_cells (X : List Int) : ∀ u ∈ cellsI X, u.oneCell' = true := fun u hu => by
  obtain ⟨x, _, rfl⟩ := List.mem_map.1 hu
  rfl
def Ow (w : World) (b : Nat) (X : List Int) (c : Nat) : Prop :=
  ∃ cur, w.heap[b]? = some (.cells cur 33 (0, 0)) ∧ cur.size = c ∧ X.length ≤ c ∧ c ≤ maxLen ∧ cur.toList.take X.length = cellsI X
theorem Ow.lt {w : World} {b c : Nat} {X : List Int} (h : Ow w b X c) : b < w.heap.size := by
  obtain ⟨cur, hc, _⟩ := h
  exact (Array.getElem?_eq_some_iff.1 hc).1
theorem Ow.owns {w : World} {b c : Nat} {X : List Int} (h : Ow w b X c) : w.ownsRow b 33 1 (.slice (some ⟨b, 0, none⟩) X.length c) X.length (cellsI X) := by
  obtain ⟨cur, h1, h2, h3, h4, h5⟩ := h
  exact ⟨by simp [cellsI], .inr ⟨b, c, cur, rfl, Nat.le_refl _, h1, h3, h4, by omega, by simpa using h5⟩⟩
theorem Ow.cell {w : World} {b c : Nat} {X : List Int} (h : Ow w b X c) (i : Nat) (hi : i < X.length) : w.cell? ⟨b, i, none⟩ = some (.int .i64 X[i]) := by
  rw [h.owns.cellAt i (by omega), cellsI_get X i hi]
theorem Ow.free {w : World} {b c : Nat} {X : List Int} (h : Ow w b X c) (i : Nat) : w.frozen? ⟨b, i, none⟩ = false := h.owns.frozenAt i
theorem Ow.sl {w : World} {b c : Nat} {X : List Int} (h : Ow w b X c) : Sl w (some ⟨b, 0, none⟩) X := fun j hj => ⟨b, 0, rfl, by rw [Nat.zero_add]; exact h.cell j hj⟩
theorem Ow.mod {S : List Nat} {w w' : World} {b c : Nat} {X : List Int} (h : Ow w b X c) (k : Mod S w w') (hS : b ∉ S) : Ow w' b X c := by
  have hl := h.lt
  obtain ⟨cur, h1, h2⟩ := h
  exact ⟨cur, (k.block b hl hS).trans h1, h2⟩
theorem Ow.new (w : World) (X : List Int) (h : X.length ≤ maxLen) : Ow (w.alloc (.cells (cellsI X).toArray 33)) w.heap.size X X.length :=
  ⟨(cellsI X).toArray, (MapKept.heap_alloc w _).1, by simp [cellsI], Nat.le_refl _, h, by rw [← cellsI_len X, List.toList_toArray, List.take_length]⟩
theorem Tryz.infoCell : (Tryz.prog.info? 33).map (fun i => (i.zero, i.size, i.bytes)) = some (some (.int .i64 0), 1, 8) := by kernel_rfl
theorem run_app {w : World} {b c : Nat} {X Y : List Int} (h : Ow w b X c) {A : Option Addr} (hs : Sl w A Y) (ty : TypeId) (n cap : Nat) (hn : n = Y.length) (hA : A = none → cap = 0) (hb : X.length + Y.length ≤ 1000000000) :
    ∃ b' c' w', (Builtin.append_ #[25, 25] ty #[.slice (some ⟨b, 0, none⟩) X.length c, .slice A n cap]).run Tryz.prog w = .ok (.slice (some ⟨b', 0, none⟩) (X ++ Y).length c') w' ∧ Ow w' b' (X ++ Y) c' ∧ Mod [b] w w' ∧ b ≤ b' := by
  subst hn
  obtain ⟨i, hi, hz0, hz1, hz2⟩ := info_parts Tryz.infoCell
  have hm : maxLen = 9223372036854775807 := rfl
  have key : ∀ base, base ≤ w.heap.size → w.ownsRow base 33 1 (.slice (some ⟨b, 0, none⟩) X.length c) X.length (cellsI X) → ∃ v' w', (Builtin.append_ #[25, 25] ty #[.slice (some ⟨b, 0, none⟩) X.length c, .slice A Y.length cap]).run Tryz.prog w = .ok v' w' ∧ w'.ownsRow base 33 1 v' (X.length + Y.length) (cellsI X ++ cellsI Y) ∧ w.grownBy w' (some b) ∧ (v' = .slice none 0 0 → False) := fun base hbase hown => by
    cases A with
    | none =>
      have hY : Y = [] := List.eq_nil_of_length_eq_zero (by
        refine Nat.eq_zero_of_not_pos fun hp => ?_
        obtain ⟨_, _, e, _⟩ := hs 0 hp
        cases e)
      subst hY
      have hcap := hA rfl
      subst hcap
      refine ⟨_, _, run_append_owned_none (P := Tryz.prog) (w := w) base 25 ty 33 i 1 Tryz.underlying25 hi _ _ _ hown, ?_, ⟨rfl, rfl, rfl, Nat.le_refl _, fun _ _ _ => rfl⟩, fun e => by cases e⟩
      simpa [cellsI] using hown
    | some a =>
      obtain ⟨v', w', h1, h2, h3, h4⟩ := run_append_own (P := Tryz.prog) w base 25 ty 33 i (.int .i64 0) 1 8 Tryz.underlying25 hi hz0 hz1 hz2 rfl (by decide) _ _ _ hown a Y.length cap (cellsI Y) (by simp [cellsI]) hs.src (one_cells Y) (by omega) (by omega) hbase
      exact ⟨v', w', h1, h2, h3, fun e => by have := (h4.1 e).1; cases this⟩
  have hlt := h.lt
  have shape : ∀ base v' w', w'.ownsRow base 33 1 v' (X.length + Y.length) (cellsI X ++ cellsI Y) → (v' = .slice none 0 0 → False) → ∃ b' c', v' = .slice (some ⟨b', 0, none⟩) (X ++ Y).length c' ∧ Ow w' b' (X ++ Y) c' ∧ base ≤ b' := fun base v' w' ho hv => by
    obtain ⟨ho1, ho2⟩ := ho
    rcases ho2 with ⟨e, _⟩ | ⟨g, cp, cur, e, hbg, hg, h3, h4, h5, h6⟩
    · exact absurd e hv
    · refine ⟨g, cp, by rw [e, List.length_append], ⟨cur, hg, by omega, by rw [List.length_append]; exact h3, h4, ?_⟩, hbg⟩
      rw [List.length_append]
      simpa [cellsI] using h6
  obtain ⟨v', w', h1, h2, h3, h4⟩ := key b (by omega) h.owns
  obtain ⟨b', c', rfl, ho, hbb⟩ := shape _ _ _ h2 h4
  exact ⟨b', c', w', h1, ho, Mod.of_grown h3 (by simp), hbb⟩
theorem wpList_app {w : World} {ops : Array Oper} {rest : List Oper} {o : Oper} {a : Act} {Q : Exit → Act → World → Prop} (hgd : o.guard = none) (s x : Operand)
    (ho : o.op = .call { callee := .builtin .append, args := #[s, x], argTypes := #[25, 25] })
    {b c n0 : Nat} {X Y : List Int} {A : Option Addr} {n cap : Nat} (h : Ow w b X c) (hs : Sl w A Y) (e1 : n0 = X.length) (e2 : n = Y.length) (hA : A = none → cap = 0) (hb : X.length + Y.length ≤ 1000000000)
    (v1 : a.eval s = .slice (some ⟨b, 0, none⟩) n0 c) (v2 : a.eval x = .slice A n cap)
    (hK : ∀ b' c' w', Ow w' b' (X ++ Y) c' → Mod [b] w w' → b ≤ b' → wpList Tryz.prog ops Q rest (a.put o.dst (.slice (some ⟨b', 0, none⟩) (n0 + n) c')) w') : wpList Tryz.prog ops Q (o :: rest) a w := by
  subst e1 e2
  obtain ⟨b', c', w', hr, h2, h3, h4⟩ := run_app h hs o.type Y.length cap rfl hA hb
  refine wpList_plain hgd fun K hk => ?_
  unfold Oper.wp execOp
  simp only [ho, resolve, invoke, builtin, Sem.run_bind, Sem.run_pure, Result.andThen_ok, List.map_toArray, List.map_cons, List.map_nil, v1, v2, hr]
  rw [List.length_append]
  exact hk _ _ (hK b' c' w' h2 h3 h4)
theorem clone_calls {w : World} {A : Option Addr} {n cap : Nat} {Y : List Int} (hs : Sl w A Y) (hn : n = Y.length) (a0 : Addr) (hA : A = some a0) (hb : Y.length ≤ 1000000000) :
    Calls Tryz.prog 58 #[.slice A n cap] w fun e w' => ∃ b c, e = .returned (.slice (some ⟨b, 0, none⟩) n c) ∧ Ow w' b Y c ∧ Mod [] w w' ∧ w.heap.size ≤ b := by
  subst hA
  have h0 := Ow.new w [] (Nat.zero_le _)
  have hO := Lib.hid h0
  have hS := Lib.hid (hs.far ((Mod.refl [] w).alloc (.cells (cellsI []).toArray 33)))
  have HN := Lib.hid hn
  have HB := Lib.hid (show ([] : List Int).length + Y.length ≤ 1000000000 by simpa using hb)
  have hM := Lib.hid ((Mod.refl [] w).alloc (.cells (cellsI []).toArray 33))
  have q : ∀ W, (binOp .eql 25 (.slice (some a0) n cap) (.slice none 0 0)).run Tryz.prog W = .ok (.bool false) W := fun W => Lib.run_eql_slice_nil W _ _ (some a0) n cap 0 0 Tryz.underlying25
  clear hs hn hb h0
  go_enter Tryz.func58, Tryz.ntmps58
  go_wp2_with (refine wpList_app rfl (.tmp 5) (.tmp 6) rfl hO.out hS.out rfl HN.out (fun h => by cases h) HB.out rfl rfl ?_)
  intro b' c' w' h1 h2 h3
  have H1 := Lib.hid h1
  have H2 := Lib.hid h2
  clear h1 h2
  go_wp2
  go_ret
  exact ⟨b', c', by simp, by simpa using H1.out, hM.out.far1 H2.out (Nat.le_refl _), h3⟩
end Go.Proofs.YtifnkmddinoneaaGreatDoor
namespace Go.Proofs.YtifnkmddinoneaaGreatDoor.L10
set_option linter.unusedVariables false

/-- An instruction. -/
structure Xi where
  op : Nat
  a : Int
  w : Int
  deriving DecidableEq, Inhabited
def waysX (x : Xi) (i : Nat) : List (Int × Int) :=
  if x.op = 3 then [(x.a, 0)] else if x.op = 9 then [(x.a, -1)] else if x.op = 4 ∨ x.op = 10 then [((i : Int) + 1, 0), (x.a, 0)]
  else if x.op = 6 then [((i : Int) + 1, 1), (x.a, 0)] else if x.op = 7 ∨ x.op = 8 then [((i : Int) + 1, -1), (x.a, 0)]
  else if x.op = 5 then [((i : Int) + 1, 1)] else if x.op = 15 then [] else [((i : Int) + 1, 0)]
theorem ways_two (x : Xi) (i : Nat) : (waysX x i).length ≤ 2 := by
  unfold waysX
  repeat' split
  all_goals simp
theorem ways_more (x : Xi) (i : Nat) : ∀ tm ∈ waysX x i, -1 ≤ tm.2 ∧ tm.2 ≤ 1 := by
  unfold waysX
  intro tm h
  repeat' split at h
  all_goals simp at h
  all_goals first | (obtain rfl := h; simp; done) | (rcases h with rfl | rfl <;> simp)
inductive Rh (L : List Xi) : Int → Int → Prop
  | start : Rh L 0 0
  | step {n : Int} {k : Nat} {x : Xi} {tm : Int × Int} : Rh L k n → L[k]? = some x → tm ∈ waysX x k → Rh L tm.1 (n + tm.2)
def Bad (L : List Xi) : Prop := ∃ i n, Rh L i n ∧ (n < 0 ∨ i < 0 ∨ (L.length : Int) ≤ i ∨ ∃ m, Rh L i m ∧ m ≠ n)
def Cl (o : List Int) (v : Int) (ws : List (Int × Int)) : Prop := ∀ tm ∈ ws, ∃ t : Nat, tm.1 = t ∧ o[t]? = some (v + tm.2) ∧ 0 ≤ v + tm.2
structure Lab (L : List Xi) (o : List Int) : Prop where
  len : o.length = L.length
  pos : 0 < L.length
  zero : o[0]? = some 0
  rh : ∀ (k : Nat) v, o[k]? = some v → v ≠ -1 → Rh L k v
  low : ∀ v ∈ o, -1 ≤ v ∧ v ≤ o.length
  cl : ∀ (k : Nat) v x, o[k]? = some v → v ≠ -1 → L[k]? = some x → Cl o v (waysX x k)
theorem Lab.reach {L : List Xi} {o : List Int} (h : Lab L o) {i n : Int} (r : Rh L i n) : ∃ k : Nat, i = k ∧ o[k]? = some n ∧ 0 ≤ n := by
  induction r with
  | start => exact ⟨0, rfl, h.zero, by omega⟩
  | step r hx hw ih =>
    obtain ⟨k', e, h1, h2⟩ := ih
    have e := Int.ofNat.inj e
    subst e
    exact h.cl _ _ _ h1 (by omega) hx _ hw
theorem Lab.good {L : List Xi} {o : List Int} (h : Lab L o) : ¬ Bad L := by
  rintro ⟨i, n, r, hb⟩
  obtain ⟨k, rfl, h1, h2⟩ := h.reach r
  have hk := (List.getElem?_eq_some_iff.1 h1).1
  rw [h.len] at hk
  rcases hb with hb | hb | hb | ⟨m, rm, hm⟩
  · omega
  · omega
  · omega
  · obtain ⟨k', e, h3, _⟩ := h.reach rm
    have e := Int.ofNat.inj e
    subst e
    rw [h1] at h3
    injection h3 with h3
    exact hm h3.symm
theorem Lab.same {L : List Xi} {o p : List Int} (h : Lab L o) (g : Lab L p) : o = p := by
  apply List.ext_getElem?
  intro k
  by_cases hk : k < L.length
  · have h1 : o[k]? = some (o[k]'(by rw [h.len]; exact hk)) := List.getElem?_eq_getElem _
    have h2 : p[k]? = some (p[k]'(by rw [g.len]; exact hk)) := List.getElem?_eq_getElem _
    generalize o[k]'(by rw [h.len]; exact hk) = v at h1
    generalize p[k]'(by rw [g.len]; exact hk) = u at h2
    by_cases hv : v = -1
    · by_cases hu : u = -1
      · rw [h1, h2, hv, hu]
      · obtain ⟨k', e, h3, h4⟩ := h.reach (g.rh k u h2 hu)
        have e := Int.ofNat.inj e
        subst e
        rw [h1] at h3
        injection h3 with h3
        omega
    · obtain ⟨k', e, h3, h4⟩ := g.reach (h.rh k v h1 hv)
      have e := Int.ofNat.inj e
      subst e
      rw [h1, h3]
  · rw [List.getElem?_eq_none (by rw [h.len]; omega), List.getElem?_eq_none (by rw [g.len]; omega)]
def cnt (o : List Int) : Nat := o.countP (· = -1)
theorem cnt_set {o : List Int} {t : Nat} {v : Int} (h : o[t]? = some (-1)) (hv : v ≠ -1) : cnt (o.set t v) + 1 = cnt o := by
  induction o generalizing t with
  | nil => simp at h
  | cons a r ih =>
    cases t with
    | zero =>
      simp at h
      subst h
      simp [cnt, hv]
    | succ t =>
      have := ih (t := t) (by simpa using h)
      simp only [cnt, List.set_cons_succ, List.countP_cons] at this ⊢
      omega
theorem cnt_le (o : List Int) : cnt o ≤ o.length := List.countP_le_length
structure Bs (L : List Xi) (o : List Int) : Prop where
  len : o.length = L.length
  pos : 0 < L.length
  zero : o[0]? = some 0
  rh : ∀ (k : Nat) v, o[k]? = some v → v ≠ -1 → Rh L k v
  low : ∀ v ∈ o, -1 ≤ v ∧ v + (cnt o : Int) < o.length
theorem Bs.start {L : List Xi} {n : Nat} (hn : n = L.length) (h : 0 < n) : Bs L ((List.replicate n (-1)).set 0 0) := by
  obtain ⟨k, rfl⟩ : ∃ k, n = k + 1 := ⟨n - 1, by omega⟩
  have e : (List.replicate (k + 1) (-1 : Int)).set 0 0 = 0 :: List.replicate k (-1) := rfl
  rw [e]
  refine ⟨by simp [hn], by omega, rfl, fun j v hj hv => ?_, fun v hv => ?_⟩
  · cases j with
    | zero => simp at hj; subst hj; exact Rh.start
    | succ j =>
      rw [List.getElem?_cons_succ, List.getElem?_replicate] at hj
      split at hj
      · injection hj with hj; exact absurd hj.symm hv
      · cases hj
  · have c : cnt (0 :: List.replicate k (-1)) = k := by simp [cnt, List.countP_replicate]
    rw [c]
    rcases List.mem_cons.1 hv with rfl | hv
    · simp; omega
    · have := (List.mem_replicate.1 hv).2
      subst this
      simp; omega
theorem Bs.get {L : List Xi} {o : List Int} (h : Bs L o) {k : Nat} {v : Int} (hk : o[k]? = some v) : -1 ≤ v ∧ v + (cnt o : Int) < o.length := h.low v (List.mem_of_getElem? hk)
theorem Bs.set {L : List Xi} {o : List Int} (h : Bs L o) {i : Nat} {n : Int} {x : Xi} {tm : Int × Int} (hi : o[i]? = some n) (hn : n ≠ -1) (hx : L[i]? = some x) (hw : tm ∈ waysX x i) {t : Nat} (ht : tm.1 = t) (h0 : 0 ≤ n + tm.2) (hf : o[t]? = some (-1)) : Bs L (o.set t (n + tm.2)) := by
  have c := cnt_set hf (show n + tm.2 ≠ -1 by omega)
  have hm := ways_more x i tm hw
  refine ⟨by rw [List.length_set]; exact h.len, h.pos, ?_, fun k v hk hv => ?_, fun v hv => ?_⟩
  · rw [List.getElem?_set_ne]
    · exact h.zero
    · intro e; subst e; rw [h.zero] at hf; injection hf with hf; omega
  · by_cases e : t = k
    · subst e
      rw [List.getElem?_set_self (List.getElem?_eq_some_iff.1 hf).1] at hk
      injection hk with hk
      subst hk
      rw [← ht]
      exact Rh.step (h.rh i n hi hn) hx hw
    · rw [List.getElem?_set_ne e] at hk
      exact h.rh k v hk hv
  · rw [List.length_set]
    rcases List.mem_or_eq_of_mem_set hv with hv | rfl
    · have := h.low v hv; omega
    · have := h.get hi; omega
theorem Bs.bad {L : List Xi} {o : List Int} (h : Bs L o) {i : Nat} {n : Int} {x : Xi} {tm : Int × Int} (hi : o[i]? = some n) (hn : n ≠ -1) (hx : L[i]? = some x) (hw : tm ∈ waysX x i) (hb : n + tm.2 < 0 ∨ tm.1 < 0 ∨ (o.length : Int) ≤ tm.1 ∨ ∃ (t : Nat) (v : Int), tm.1 = t ∧ o[t]? = some v ∧ v ≠ -1 ∧ v ≠ n + tm.2) : Bad L := by
  refine ⟨tm.1, n + tm.2, Rh.step (h.rh i n hi hn) hx hw, ?_⟩
  rw [h.len] at hb
  rcases hb with hb | hb | hb | ⟨t, v, ht, hv, h1, h2⟩
  · exact Or.inl hb
  · exact Or.inr (Or.inl hb)
  · exact Or.inr (Or.inr (Or.inl hb))
  · refine Or.inr (Or.inr (Or.inr ⟨v, ?_, h2⟩))
    rw [ht]
    exact h.rh t v hv h1
theorem bad_nil : Bad [] := ⟨0, 0, Rh.start, Or.inr (Or.inr (Or.inl (by simp)))⟩
theorem Cl.set {o : List Int} {v : Int} {ws : List (Int × Int)} (h : Cl o v ws) {t : Nat} {u : Int} (hf : o[t]? = some (-1)) : Cl (o.set t u) v ws := fun tm hm => by
  obtain ⟨k, e, h1, h2⟩ := h tm hm
  refine ⟨k, e, ?_, h2⟩
  rw [List.getElem?_set_ne]
  · exact h1
  · intro e2; subst e2; rw [hf] at h1; injection h1 with h1; omega
theorem Cl.nil (o : List Int) (v : Int) : Cl o v [] := fun _ h => by cases h
theorem Cl.snoc {o : List Int} {v : Int} {ws : List (Int × Int)} (h : Cl o v ws) {tm : Int × Int} {t : Nat} (ht : tm.1 = t) (h1 : o[t]? = some (v + tm.2)) (h0 : 0 ≤ v + tm.2) : Cl o v (ws ++ [tm]) := fun q hq => by
  rcases List.mem_append.1 hq with hq | hq
  · exact h q hq
  · obtain rfl := List.mem_singleton.1 hq
    exact ⟨t, ht, h1, h0⟩
theorem Bs.lab {L : List Xi} {o : List Int} (h : Bs L o) (hc : ∀ (k : Nat) v x, o[k]? = some v → v ≠ -1 → L[k]? = some x → Cl o v (waysX x k)) : Lab L o :=
  ⟨h.len, h.pos, h.zero, h.rh, fun v hv => by have := h.low v hv; omega, hc⟩
structure Sr1 (L : List Xi) (o : List Int) (l : List Nat) (i k : Nat) : Prop where
  b : Bs L o
  hl : ∀ j ∈ l, ∃ v, o[j]? = some v ∧ v ≠ -1
  hi : ∃ v, o[i]? = some v ∧ v ≠ -1
  hc : ∀ (j : Nat) v x, o[j]? = some v → v ≠ -1 → L[j]? = some x → j ∈ l ∨ Cl o v ((waysX x j).take (if j = i then k else 2))
theorem Sr1.start {L : List Xi} {n : Nat} (hn : n = L.length) (h : 0 < n) : Sr1 L ((List.replicate n (-1)).set 0 0) [0] 0 2 := by
  have b := Bs.start hn h
  refine ⟨b, fun j hj => ?_, ⟨0, b.zero, by omega⟩, fun j v x hj hv hx => ?_⟩
  · obtain rfl := List.mem_singleton.1 hj
    exact ⟨0, b.zero, by omega⟩
  · refine Or.inl ?_
    rw [List.mem_singleton]
    by_cases e : j = 0
    · exact e
    · rw [List.getElem?_set_ne (by omega), List.getElem?_replicate] at hj
      split at hj
      · injection hj with hj; exact absurd hj.symm hv
      · cases hj
theorem take_two {x : Xi} {j : Nat} : (waysX x j).take 2 = waysX x j := List.take_of_length_le (ways_two x j)
theorem Sr1.open {L : List Xi} {o : List Int} {l : List Nat} {i' i : Nat} (h : Sr1 L o (l ++ [i]) i' 2) : Sr1 L o l i 0 := by
  refine ⟨h.b, fun j hj => h.hl j (List.mem_append_left _ hj), h.hl i (by simp), fun j v x hj hv hx => ?_⟩
  by_cases e : j = i
  · subst e
    right
    rw [if_pos rfl]
    exact Cl.nil _ _
  · rw [if_neg e]
    rcases h.hc j v x hj hv hx with hl | hl
    · rcases List.mem_append.1 hl with hl | hl
      · exact Or.inl hl
      · exact absurd (List.mem_singleton.1 hl) e
    · right
      simpa using hl
theorem Sr1.shut {L : List Xi} {o : List Int} {l : List Nat} {i k : Nat} {x : Xi} (h : Sr1 L o l i k) (hx : L[i]? = some x) (hk : (waysX x i).length ≤ k) : Sr1 L o l i 2 := by
  refine ⟨h.b, h.hl, h.hi, fun j v y hj hv hy => ?_⟩
  rcases h.hc j v y hj hv hy with hl | hl
  · exact Or.inl hl
  · right
    by_cases e : j = i
    · subst e
      rw [hx] at hy
      injection hy with hy
      subst hy
      rw [if_pos rfl] at hl ⊢
      rw [take_two]
      rwa [List.take_of_length_le hk] at hl
    · rw [if_neg e] at hl ⊢
      exact hl
theorem Sr1.there {L : List Xi} {o : List Int} {l : List Nat} {i k : Nat} {x : Xi} {tm : Int × Int} {n : Int} (h : Sr1 L o l i k) (hx : L[i]? = some x) (hk : (waysX x i)[k]? = some tm) (hi : o[i]? = some n) {t : Nat} (ht : tm.1 = t) (h1 : o[t]? = some (n + tm.2)) (h0 : 0 ≤ n + tm.2) : Sr1 L o l i (k + 1) := by
  refine ⟨h.b, h.hl, h.hi, fun j v y hj hv hy => ?_⟩
  rcases h.hc j v y hj hv hy with hl | hl
  · exact Or.inl hl
  · right
    by_cases e : j = i
    · subst e
      rw [hx] at hy
      injection hy with hy
      subst hy
      rw [hi] at hj
      injection hj with hj
      subst hj
      rw [if_pos rfl] at hl ⊢
      obtain ⟨hk1, hk2⟩ := List.getElem?_eq_some_iff.1 hk
      rw [List.take_succ_eq_append_getElem hk1, hk2]
      exact hl.snoc ht h1 h0
    · rw [if_neg e] at hl ⊢
      exact hl
theorem Sr1.push {L : List Xi} {o : List Int} {l : List Nat} {i k : Nat} {x : Xi} {tm : Int × Int} {n : Int} (h : Sr1 L o l i k) (hx : L[i]? = some x) (hk : (waysX x i)[k]? = some tm) (hi : o[i]? = some n) (hn : n ≠ -1) {t : Nat} (ht : tm.1 = t) (h1 : o[t]? = some (-1)) (h0 : 0 ≤ n + tm.2) : Sr1 L (o.set t (n + tm.2)) (l ++ [t]) i (k + 1) := by
  have htl := (List.getElem?_eq_some_iff.1 h1).1
  have old : ∀ j v, o[j]? = some v → v ≠ -1 → (o.set t (n + tm.2))[j]? = some v := fun j v hj hv => by
    rw [List.getElem?_set_ne]
    · exact hj
    · intro e; subst e; rw [h1] at hj; injection hj with hj; exact hv hj.symm
  refine ⟨h.b.set hi hn hx (List.mem_of_getElem? hk) ht h0 h1, fun j hj => ?_, ?_, fun j v y hj hv hy => ?_⟩
  · rcases List.mem_append.1 hj with hj | hj
    · obtain ⟨v, h2, h3⟩ := h.hl j hj
      exact ⟨v, old j v h2 h3, h3⟩
    · obtain rfl := List.mem_singleton.1 hj
      exact ⟨n + tm.2, List.getElem?_set_self htl, by omega⟩
  · obtain ⟨v, h2, h3⟩ := h.hi
    exact ⟨v, old i v h2 h3, h3⟩
  · by_cases e2 : t = j
    · subst e2
      exact Or.inl (by simp)
    · rw [List.getElem?_set_ne e2] at hj
      rcases h.hc j v y hj hv hy with hl | hl
      · exact Or.inl (List.mem_append_left _ hl)
      · right
        by_cases e : j = i
        · subst e
          rw [hx] at hy
          injection hy with hy
          subst hy
          rw [hi] at hj
          injection hj with hj
          subst hj
          rw [if_pos rfl] at hl ⊢
          obtain ⟨hk1, hk2⟩ := List.getElem?_eq_some_iff.1 hk
          rw [List.take_succ_eq_append_getElem hk1, hk2]
          exact (hl.set h1).snoc ht (List.getElem?_set_self htl) h0
        · rw [if_neg e] at hl ⊢
          exact hl.set h1
theorem Sr1.lab {L : List Xi} {o : List Int} {i : Nat} (h : Sr1 L o [] i 2) : Lab L o := h.b.lab fun k v x hk hv hx => by
  rcases h.hc k v x hk hv hx with hl | hl
  · cases hl
  · rw [ite_self, take_two] at hl
    exact hl
end Go.Proofs.YtifnkmddinoneaaGreatDoor.L10
namespace Go.Proofs.YtifnkmddinoneaaGreatDoor.L10
open Go.RowKit
set_option linter.unusedVariables false

def intsV (Y : List Int) : List Value := Y.map (Value.int .i64)
def IntsAt (w : World) (A : Option Addr) (Y : List Int) : Prop := ∀ i (hi : i < Y.length), ∃ b o, A = some ⟨b, o, none⟩ ∧ w.cell? ⟨b, o + i, none⟩ = some (.int .i64 Y[i])
def Keep (U : List Nat) (w w' : World) : Prop := ∃ S, Mod S w w' ∧ ∀ x ∈ U, x ∉ S
theorem row_keep {w w' : World} {U : List Nat} {base k n : Nat} {e : TypeId} {v : Value} {xs : List Value} (h : w.ownsRow base e k v n xs) (m : Keep U w w') (hU : ∀ g, v.ownBlock = some g → g ∈ U) : w'.ownsRow base e k v n xs := by
  obtain ⟨S, m, hS⟩ := m
  refine ⟨h.1, h.2.elim Or.inl fun ⟨g, cap, cur, h1, h2, h3, h4⟩ => Or.inr ⟨g, cap, cur, h1, h2, ?_, h4⟩⟩
  subst h1
  rw [m.block g (Array.getElem?_eq_some_iff.1 h3).1 (hS g (hU g rfl))]
  exact h3
def appInts (ty : TypeId) (xs : Array Value) : Sem Value := Builtin.append_ #[72, 72] ty xs
@[go_sem ↓ high] theorem builtin_appInts (ty : TypeId) (cs : Array Bool) (xs : Array Value) : builtin .append #[72, 72] ty cs xs = (do pure (.value (← appInts ty xs))) := rfl
theorem infoInt9 : (Tryz.prog.info? 3).map (fun i => (i.zero, i.size, i.bytes)) = some (some (.int .i64 0), 1, 8) := by kernel_rfl
def Ir (w : World) (base : Nat) (v : Value) (Y : List Int) : Prop := w.ownsRow base 3 1 v Y.length (intsV Y)
theorem Ir.far {w w' : World} {base : Nat} {v : Value} {Y : List Int} (h : Ir w base v Y) (k : Mod [] w w') : Ir w' base v Y := row_keep h ⟨[], k, by simp⟩ (U := v.ownBlock.toList) (fun g hg => by simp [hg])
theorem Ir.keep {w w' : World} {base : Nat} {v : Value} {Y : List Int} {b : Nat} (h : Ir w base v Y) (k : Mod [b] w w') (hb : v.ownBlock ≠ some b) : Ir w' base v Y :=
  row_keep h (U := v.ownBlock.toList) ⟨[b], k, fun x hx hs => by
    have e : x = b := by simpa using hs
    subst e
    exact hb (by simpa using hx)⟩ (fun g hg => by simp [hg])
theorem Ir.opened {w : World} {base : Nat} {v : Value} {Y : List Int} (h : Ir w base v Y) : ∃ A cap, v = .slice A Y.length cap ∧ IntsAt w A Y ∧ (A = none → cap = 0) ∧ Y.length ≤ cap ∧ cap ≤ 9223372036854775807 := by
  rcases h.2 with ⟨rfl, h0⟩ | ⟨g, cap, cur, rfl, h2, h3, h4, h5, _⟩
  · exact ⟨none, 0, by rw [h0], fun j hj => by omega, fun _ => rfl, by omega, by omega⟩
  · refine ⟨some ⟨g, 0, none⟩, cap, rfl, fun j hj => ⟨g, 0, rfl, ?_⟩, by simp, h4, h5⟩
    have hown : w.ownsRow base 3 1 (.slice (some ⟨g, 0, none⟩) Y.length cap) Y.length (intsV Y) := h
    rw [Nat.zero_add, hown.cellAt j (by omega)]
    simp [intsV, hj]
theorem Ir.own {w : World} {b : Nat} {v : Value} {X : List Int} (h : Ir w b v X) : ∀ g, v.ownBlock = some g → b ≤ g ∧ g < w.heap.size := fun g hg => World.ownsRow.lt h g hg
theorem Ir.one (w : World) (base : Nat) (hb : base ≤ w.heap.size) (c : Int) : Ir (w.alloc (.cells #[.int .i64 c] 3)) base (.slice (some ⟨w.heap.size, 0, none⟩) 1 1) [c] := by
  have := World.ownsRow_lit (base := base) (e := 3) (size := 1) w #[.int .i64 c] 1 hb (by decide) rfl
  exact this
theorem Ir.pop {w : World} {base : Nat} {A : Option Addr} {n cap : Nat} {Y : List Int} {c : Int} (h : Ir w base (.slice A n cap) (Y ++ [c])) : Ir w base (.slice A Y.length cap) Y := by
  rcases h.2 with ⟨_, h0⟩ | ⟨g, cap', cur, e, h2, h3, h4, h5, h6, h7⟩
  · simp at h0
  · simp only [Value.slice.injEq] at e
    obtain ⟨rfl, rfl, rfl⟩ := e
    simp only [List.length_append, List.length_singleton] at h4 h7
    refine ⟨by simp [intsV], Or.inr ⟨g, cap, cur, rfl, h2, h3, by omega, h5, h6, ?_⟩⟩
    have e1 : cur.toList.take (Y.length * 1) = (cur.toList.take ((Y.length + 1) * 1)).take (Y.length * 1) := by rw [List.take_take]; congr 1; omega
    rw [e1, h7]
    simp [intsV]
theorem Ir.app1 {w : World} {base : Nat} {v : Value} {X : List Int} (h : Ir w base v X) (hb : base ≤ w.heap.size) (hl : X.length ≤ 1000000000) (ty : TypeId) (a : Addr) (cp : Nat) (c : Int) (hc : w.cell? (a.add 0) = some (.int .i64 c)) :
    ∃ A n cap w', (Builtin.append_ #[72, 72] ty #[v, .slice (some a) 1 cp]).run Tryz.prog w = .ok (.slice A n cap) w' ∧ n = X.length + 1 ∧ Ir w' base (.slice A n cap) (X ++ [c]) ∧ w.grownBy w' v.ownBlock ∧ ((Value.slice A n cap).ownBlock = v.ownBlock ∨ (Value.slice A n cap).ownBlock = some w.heap.size) := by
  obtain ⟨i, hi, hz0, hz1, hz2⟩ := info_parts infoInt9
  have hm : maxLen = 9223372036854775807 := rfl
  obtain ⟨v', w', h1, h2, h3, h4, h5⟩ := run_append_own_at (P := Tryz.prog) w base 72 ty 3 i (.int .i64 0) 1 8 Tryz.underlying72 hi hz0 hz1 hz2 rfl (by decide) _ _ _ h a 1 cp (intsV [c]) (by simp [intsV])
    (fun j u hj => by
      have hj' := (List.getElem?_eq_some_iff.1 hj).1
      have : j = 0 := by simpa [intsV] using hj'
      subst this
      rw [hc, ← hj]; simp [intsV]) (fun u hu => by obtain ⟨x, _, rfl⟩ := List.mem_map.1 hu; rfl) (by omega) (by omega) hb
  have h2' : Ir w' base v' (X ++ [c]) := by
    unfold Ir
    have e : (X ++ [c]).length = X.length + 1 := by simp
    have e2 : intsV (X ++ [c]) = intsV X ++ intsV [c] := by simp [intsV]
    rw [e, e2]
    exact h2
  obtain ⟨A, cap, rfl, _⟩ := h2'.opened
  exact ⟨A, _, cap, w', h1, by simp, h2', h3, h5⟩
theorem one_int (w : World) (c : Int) : (w.alloc (.cells #[.int .i64 c] 3)).cell? ((⟨w.heap.size, 0, none⟩ : Addr).add 0) = some (.int .i64 c) := by
  rw [WideShapes.add_plain, Nat.zero_add, World.cell?_alloc_new]
  rfl
def Iv (w : World) (b : Nat) (o : List Int) : Prop := w.heap[b]? = some (.cells (intsV o).toArray 3 (0, 0)) ∧ o.length ≤ 1000000000
theorem Iv.lt {w : World} {b : Nat} {o : List Int} (h : Iv w b o) : b < w.heap.size := (Array.getElem?_eq_some_iff.1 h.1).1
theorem Iv.mod {S : List Nat} {w w' : World} {b : Nat} {o : List Int} (h : Iv w b o) (m : Mod S w w') (hb : b ∉ S) : Iv w' b o := ⟨(m.block b h.lt hb).trans h.1, h.2⟩
theorem Iv.far {w w' : World} {b : Nat} {o : List Int} (h : Iv w b o) (m : Mod [] w w') : Iv w' b o := h.mod m (by simp)
theorem Iv.owns {w : World} {b : Nat} {o : List Int} (h : Iv w b o) : w.ownsRow b 3 1 (.slice (some ⟨b, 0, none⟩) o.length o.length) o.length (intsV o) := by
  have hm : maxLen = 9223372036854775807 := rfl
  have h2 := h.2
  exact ⟨by simp [intsV], .inr ⟨b, o.length, _, rfl, Nat.le_refl _, h.1, Nat.le_refl _, by omega, by simp [intsV], by rw [Nat.mul_one]; exact List.take_of_length_le (by simp [intsV])⟩⟩
theorem Iv.cell {w : World} {b : Nat} {o : List Int} (h : Iv w b o) {k : Nat} {v : Int} (hk : o[k]? = some v) : w.cell? ⟨b, k, none⟩ = some (.int .i64 v) := by
  have hl := (List.getElem?_eq_some_iff.1 hk).1
  rw [h.owns.cellAt k (by omega)]
  simp [intsV, hk]
theorem Iv.free {w : World} {b : Nat} {o : List Int} (h : Iv w b o) (k : Nat) : w.frozen? ⟨b, k, none⟩ = false := h.owns.frozenAt k
theorem Iv.set {w : World} {b : Nat} {o : List Int} (h : Iv w b o) (k : Nat) (v : Int) : Iv (w.setCell ⟨b, k, none⟩ (.int .i64 v)) b (o.set k v) := by
  refine ⟨?_, by rw [List.length_set]; exact h.2⟩
  rw [heap_setCell_same w b k _ _ _ h.1]
  congr 2
  simp [intsV, List.map_set]
theorem set_mod (w : World) (b k : Nat) (v : Value) : Mod [b] w (w.setCell ⟨b, k, none⟩ v) := (Mod.refl [b] w).set (x := ⟨b, k, none⟩) (Or.inl (by simp)) v
structure AtX (W : World) (b o : Nat) (x : Xi) : Prop where
  c0 : W.cell? ⟨b, o, none⟩ = some (.int .u8 (x.op : Int))
  c1 : W.cell? ⟨b, o + 1, none⟩ = some (.int .i64 x.a)
  c2 : W.cell? ⟨b, o + 2, none⟩ = some (.int .i64 x.w)
theorem AtX.far {w w' : World} {b o : Nat} {x : Xi} (h : AtX w b o x) (m : Mod [] w w') : AtX w' b o x := ⟨m.cell (by simp) h.c0, m.cell (by simp) h.c1, m.cell (by simp) h.c2⟩
structure WellX (x : Xi) : Prop where
  op : x.op < 256
  a : I64 x.a
  w : I64 x.w
def InsAt (w : World) (A : Option Addr) (L : List Xi) : Prop := ∀ i (hi : i < L.length), ∃ b o, A = some ⟨b, o, none⟩ ∧ AtX w b (o + i * 3) L[i] ∧ WellX L[i]
theorem InsAt.far {w w' : World} {A : Option Addr} {L : List Xi} (h : InsAt w A L) (m : Mod [] w w') : InsAt w' A L := fun i hi => by
  obtain ⟨b, o, e, hc, hw⟩ := h i hi
  exact ⟨b, o, e, hc.far m, hw⟩
theorem InsAt.get {w : World} {A : Option Addr} {L : List Xi} (h : InsAt w A L) {i : Nat} {x : Xi} (hx : L[i]? = some x) : ∃ b o, A = some ⟨b, o, none⟩ ∧ AtX w b (o + i * 3) x ∧ WellX x := by
  obtain ⟨hi, rfl⟩ := List.getElem?_eq_some_iff.1 hx
  exact h i hi
abbrev insV (x : Xi) : Value := .agg #[.int .u8 (x.op : Int), .int .i64 x.a, .int .i64 x.w]
abbrev defV (A : Option Addr) (n cap : Nat) : Value := .agg #[.slice A n cap]
theorem size_allocI (w : World) (o : Obj) : (w.alloc o).heap.size = w.heap.size + 1 := by simp
def WaysAt (w : World) (A : Option Addr) (W : List (Int × Int)) : Prop := ∀ k (hk : k < W.length), ∃ b, A = some ⟨b, 0, none⟩ ∧ w.cell? ⟨b, k * 2, none⟩ = some (.int .i64 W[k].1) ∧ w.cell? ⟨b, k * 2 + 1, none⟩ = some (.int .i64 W[k].2)
theorem WaysAt.far {w w' : World} {A : Option Addr} {W : List (Int × Int)} (h : WaysAt w A W) (m : Mod [] w w') : WaysAt w' A W := fun i hi => by
  obtain ⟨b, e, h1, h2⟩ := h i hi
  exact ⟨b, e, m.cell (by simp) h1, m.cell (by simp) h2⟩
theorem ways_nil (w : World) : WaysAt w none [] := fun k hk => absurd hk (by simp)
theorem ways_one (w : World) (a b : Int) (t : TypeId) {n : Nat} (hn : n = w.heap.size) : WaysAt (w.alloc (.cells #[.int .i64 a, .int .i64 b] t)) (some ⟨n, 0, none⟩) [(a, b)] := fun k hk => by
  subst hn
  have : k = 0 := by simpa using hk
  subst this
  refine ⟨_, rfl, ?_, ?_⟩ <;> (rw [World.cell?_alloc_new]; rfl)
theorem ways_pair (w : World) (a b c d : Int) (t : TypeId) {n : Nat} (hn : n = w.heap.size) : WaysAt (w.alloc (.cells #[.int .i64 a, .int .i64 b, .int .i64 c, .int .i64 d] t)) (some ⟨n, 0, none⟩) [(a, b), (c, d)] := fun k hk => by
  subst hn
  match k, hk with
  | 0, _ => refine ⟨_, rfl, ?_, ?_⟩ <;> (rw [World.cell?_alloc_new]; rfl)
  | 1, _ => refine ⟨_, rfl, ?_, ?_⟩ <;> (rw [World.cell?_alloc_new]; rfl)
end Go.Proofs.YtifnkmddinoneaaGreatDoor.L10
namespace Go.Proofs.YtifnkmddinoneaaGreatDoor.L10
open Go.RowKit
set_option linter.unusedVariables false

/-- f answers these ways, in a new slice. -/
def TellsW (W : List (Int × Int)) (w : World) (e : Ending) (w' : World) : Prop := ∃ A cap, e = .returned (.slice A W.length cap) ∧ WaysAt w' A W ∧ Mod [] w w' ∧ ∀ a, A = some a → w.heap.size ≤ a.block
set_option maxHeartbeats 4000000 in
theorem ways_calls (w : World) (x : Xi) (i : Nat) (hi : i ≤ 1000000000) : Calls Tryz.prog 120 #[insV x, .int .i64 (i : Int)] w (TellsW (waysX x i) w) := by
  obtain ⟨op, a, v⟩ := x
  have hM := Mod.refl [] w
  have hI : (i : Int) ≤ 1000000000 := by omega
  by_cases h3 : op = 3
  · subst h3
    rw [show waysX ⟨3, a, v⟩ i = [(a, 0)] from rfl]
    go_enter Tryz.func120, Tryz.ntmps120
    go_wp2
    go_ret
    exact ⟨_, _, rfl, ways_one _ _ _ _ (size_allocI _ _).symm, (hM.alloc _).alloc _, fun a ha => by cases ha <;> simp⟩
  by_cases h9 : op = 9
  · subst h9
    rw [show waysX ⟨9, a, v⟩ i = [(a, -1)] from rfl]
    go_enter Tryz.func120, Tryz.ntmps120
    go_wp2
    go_ret
    exact ⟨_, _, rfl, ways_one _ _ _ _ (size_allocI _ _).symm, (hM.alloc _).alloc _, fun a ha => by cases ha <;> simp⟩
  by_cases h4 : op = 4
  · subst h4
    rw [show waysX ⟨4, a, v⟩ i = [((i : Int) + 1, 0), (a, 0)] from rfl]
    go_enter Tryz.func120, Tryz.ntmps120
    go_wp2
    go_ret
    exact ⟨_, _, rfl, ways_pair _ _ _ _ _ _ (size_allocI _ _).symm, (hM.alloc _).alloc _, fun a ha => by cases ha <;> simp⟩
  by_cases h10 : op = 10
  · subst h10
    rw [show waysX ⟨10, a, v⟩ i = [((i : Int) + 1, 0), (a, 0)] from rfl]
    go_enter Tryz.func120, Tryz.ntmps120
    go_wp2
    go_ret
    exact ⟨_, _, rfl, ways_pair _ _ _ _ _ _ (size_allocI _ _).symm, (hM.alloc _).alloc _, fun a ha => by cases ha <;> simp⟩
  by_cases h6 : op = 6
  · subst h6
    rw [show waysX ⟨6, a, v⟩ i = [((i : Int) + 1, 1), (a, 0)] from rfl]
    go_enter Tryz.func120, Tryz.ntmps120
    go_wp2
    go_ret
    exact ⟨_, _, rfl, ways_pair _ _ _ _ _ _ (size_allocI _ _).symm, (hM.alloc _).alloc _, fun a ha => by cases ha <;> simp⟩
  by_cases h7 : op = 7
  · subst h7
    rw [show waysX ⟨7, a, v⟩ i = [((i : Int) + 1, -1), (a, 0)] from rfl]
    go_enter Tryz.func120, Tryz.ntmps120
    go_wp2
    go_ret
    exact ⟨_, _, rfl, ways_pair _ _ _ _ _ _ (size_allocI _ _).symm, (hM.alloc _).alloc _, fun a ha => by cases ha <;> simp⟩
  by_cases h8 : op = 8
  · subst h8
    rw [show waysX ⟨8, a, v⟩ i = [((i : Int) + 1, -1), (a, 0)] from rfl]
    go_enter Tryz.func120, Tryz.ntmps120
    go_wp2
    go_ret
    exact ⟨_, _, rfl, ways_pair _ _ _ _ _ _ (size_allocI _ _).symm, (hM.alloc _).alloc _, fun a ha => by cases ha <;> simp⟩
  by_cases h5 : op = 5
  · subst h5
    rw [show waysX ⟨5, a, v⟩ i = [((i : Int) + 1, 1)] from rfl]
    go_enter Tryz.func120, Tryz.ntmps120
    go_wp2
    go_ret
    exact ⟨_, _, rfl, ways_one _ _ _ _ (size_allocI _ _).symm, (hM.alloc _).alloc _, fun a ha => by cases ha <;> simp⟩
  by_cases h15 : op = 15
  · subst h15
    rw [show waysX ⟨15, a, v⟩ i = [] from rfl]
    go_enter Tryz.func120, Tryz.ntmps120
    go_wp2
    go_ret
    exact ⟨_, _, rfl, ways_nil _, hM.alloc _, fun a ha => by cases ha <;> simp⟩
  rw [show waysX ⟨op, a, v⟩ i = [((i : Int) + 1, 0)] by unfold waysX; simp [h3, h9, h4, h10, h6, h7, h8, h5, h15]]
  have g3 : ((op : Int) == 3) = false := by rw [beq_eq_false_iff_ne]; omega
  have g9 : ((op : Int) == 9) = false := by rw [beq_eq_false_iff_ne]; omega
  have g4 : ((op : Int) == 4) = false := by rw [beq_eq_false_iff_ne]; omega
  have g10 : ((op : Int) == 10) = false := by rw [beq_eq_false_iff_ne]; omega
  have g6 : ((op : Int) == 6) = false := by rw [beq_eq_false_iff_ne]; omega
  have g7 : ((op : Int) == 7) = false := by rw [beq_eq_false_iff_ne]; omega
  have g8 : ((op : Int) == 8) = false := by rw [beq_eq_false_iff_ne]; omega
  have g5 : ((op : Int) == 5) = false := by rw [beq_eq_false_iff_ne]; omega
  have g15 : ((op : Int) == 15) = false := by rw [beq_eq_false_iff_ne]; omega
  clear h3 h9 h4 h10 h6 h7 h8 h5 h15
  go_enter Tryz.func120, Tryz.ntmps120
  go_wp2
  go_ret
  exact ⟨_, _, rfl, ways_one _ _ _ _ (size_allocI _ _).symm, (hM.alloc _).alloc _, fun a ha => by cases ha <;> simp⟩
def isOpX (op : Nat) : Bool := decide (1 ≤ op ∧ op < 16)
theorem isop_calls (w : World) (op : Nat) : Calls Tryz.prog 123 #[.int .u8 (op : Int)] w fun e w' => e = .returned (.bool (isOpX op)) ∧ w = w' := by
  unfold isOpX
  by_cases h1 : 1 ≤ op
  · have g1 : (1 : Int) ≤ (op : Int) := by omega
    by_cases h2 : op < 16
    · have g2 : (op : Int) < 16 := by omega
      rw [decide_eq_true ⟨h1, h2⟩]
      go_enter Tryz.func123, Tryz.ntmps123
      go_wp2
      go_ret
      exact ⟨by simp [*], rfl⟩
    · have g2 : ¬ (op : Int) < 16 := by omega
      rw [decide_eq_false (by omega)]
      go_enter Tryz.func123, Tryz.ntmps123
      go_wp2
      go_ret
      exact ⟨by simp [*], rfl⟩
  · have g1 : ¬ (1 : Int) ≤ (op : Int) := by omega
    rw [decide_eq_false (by omega)]
    go_enter Tryz.func123, Tryz.ntmps123
    go_wp2
    go_ret
    exact ⟨by simp [*], rfl⟩
theorem isindex_calls (w : World) (A : Option Addr) (n cap : Nat) (i : Int) : Calls Tryz.prog 121 #[defV A n cap, .int .i64 i] w fun e w' => e = .returned (.bool (decide (0 ≤ i ∧ i < (n : Int)))) ∧ Mod [] w w' := by
  have hM := Mod.refl [] w
  by_cases h1 : 0 ≤ i
  · by_cases h2 : i < (n : Int)
    · rw [decide_eq_true ⟨h1, h2⟩]
      go_enter Tryz.func121, Tryz.ntmps121
      go_wp2
      go_ret
      exact ⟨by simp [*], hM.alloc _⟩
    · rw [decide_eq_false (by omega)]
      go_enter Tryz.func121, Tryz.ntmps121
      go_wp2
      go_ret
      exact ⟨by simp [*], hM.alloc _⟩
  · rw [decide_eq_false (by omega)]
    go_enter Tryz.func121, Tryz.ntmps121
    go_wp2
    go_ret
    exact ⟨by simp [*], hM.alloc _⟩
end Go.Proofs.YtifnkmddinoneaaGreatDoor.L10
namespace Go.Proofs.YtifnkmddinoneaaGreatDoor.L10
open Go.RowKit
set_option linter.unusedVariables false

theorem made_ints (n : Nat) : madeCells (Value.int .i64 0).cells n = (intsV (List.replicate n 0)).toArray := by
  apply Array.toList_inj.1
  rw [show (Value.int .i64 0).cells = #[.int .i64 0] from rfl, toList_madeCells_one]
  simp [intsV]
theorem make_ints (w : World) (n : Nat) (hn : n ≤ 1000000000) : (Instr.makeSlice 72 (.int .i64 (n : Int)) (.int .i64 (n : Int))).run Tryz.prog w = .ok (.slice (some ⟨w.heap.size, 0, none⟩) n n) (w.alloc (.cells (intsV (List.replicate n 0)).toArray 3)) := by
  obtain ⟨i, hi, hz0, hz1, hz2⟩ := info_parts infoInt9
  have := run_make (P := Tryz.prog) w 72 3 i (.int .i64 0) Tryz.underlying72 hi hz0 .i64 .i64 n n (by omega) (Int.le_refl _) (by rw [hz2]; omega) (by omega)
  rw [this, hz1, ← made_ints]
  simp
theorem Iv.new (w : World) (o : List Int) (h : o.length ≤ 1000000000) : Iv (w.alloc (.cells (intsV o).toArray 3)) w.heap.size o := ⟨(MapKept.heap_alloc w _).1, h⟩
theorem rep_set (n k : Nat) (hk : k < n) : (List.replicate k (-1 : Int) ++ List.replicate (n - k) 0).set k (-1) = List.replicate (k + 1) (-1) ++ List.replicate (n - (k + 1)) 0 := by
  obtain ⟨m, hm⟩ : ∃ m, n - k = m + 1 := ⟨n - k - 1, by omega⟩
  rw [hm, show n - (k + 1) = m by omega, List.set_append_right _ _ (by simp), List.length_replicate, Nat.sub_self, List.replicate_succ, List.set_cons_zero, List.replicate_succ', List.append_assoc]
  rfl
theorem rep_get (n k : Nat) (hk : k < n) : (List.replicate k (-1 : Int) ++ List.replicate (n - k) 0)[k]? = some 0 := by
  rw [List.getElem?_append_right (by simp), List.length_replicate, Nat.sub_self, List.getElem?_replicate, if_pos (by omega)]
def TellsB (o : List Int) (w : World) (e : Ending) (w' : World) : Prop := ∃ b, e = .returned (.slice (some ⟨b, 0, none⟩) o.length o.length) ∧ Iv w' b o ∧ Mod [] w w' ∧ w.heap.size ≤ b
theorem nonereached_calls (w : World) (n : Nat) (hn : n ≤ 1000000000) : Calls Tryz.prog 119 #[.int .i64 (n : Int)] w (TellsB (List.replicate n (-1)) w) := by
  have hm := make_ints w n hn
  have H0 := Lib.hid (And.intro (Iv.new w (List.replicate n 0) (by rw [List.length_replicate]; exact hn)) ((Mod.refl [] w).alloc (.cells (intsV (List.replicate n 0)).toArray 3)))
  have hb := Nat.le_refl w.heap.size
  have hnI : (n : Int) ≤ 1000000000 := by omega
  go_enter Tryz.func119, Tryz.ntmps119
  go_wp2_with fail
  go_loopw [9] (fun z wr => ∃ k : Nat, z = .int .i64 (k : Int) ∧ k ≤ n ∧ RowKit.Hid (Iv wr w.heap.size (List.replicate k (-1) ++ List.replicate (n - k) 0) ∧ Mod [] w wr)) (fun z _ => n - (intOf z).toNat)
  case atStart => exact ⟨0, rfl, by omega, by simpa using H0⟩
  case round =>
    obtain ⟨k, rfl, hkn, hi⟩ := hrel
    by_cases hlt : k < n
    · have hltI : (k : Int) < (n : Int) := by omega
      have hc := hi.out.1.cell (rep_get n k hlt)
      have hf := hi.out.1.free k
      have HI := Lib.hid hi.out
      clear hi
      go_wp2_with fail
      go_roundw
      case rel =>
        refine ⟨k + 1, by go_num, by omega, Lib.hid ⟨?_, HI.out.2.then (set_mod _ _ _ _) (by simp)⟩⟩
        rw [← rep_set n k hlt]
        exact HI.out.1.set k (-1)
      case measure => simp [intOf]; omega
    · have hltI : ¬ (k : Int) < (n : Int) := by omega
      have HI := Lib.hid hi.out
      clear hi
      go_wp2_with fail
      go_ret
      have : k = n := by omega
      subst this
      exact ⟨_, by simp, by simpa using HI.out.1, HI.out.2, Nat.le_refl _⟩
end Go.Proofs.YtifnkmddinoneaaGreatDoor.L10
