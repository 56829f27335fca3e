/- General lemmas: the relation Ext between two worlds (new blocks only), a map with integer keys in the last block, and its look-up. No condition. -/
import Derived.Test.YtacmidlhfcnkiaaChecked
import Derived.WalkKit
import Derived.WalkLawsBesides
import Derived.WalkSpells
import Derived.Lib.Hide
namespace Go.Proofs.Ytacmidlhfcnkiaa
open Go.RowKit
set_option linter.unusedVariables false

/-- Nothing that was there in w has changed in w', and nothing new is frozen. -/
def Ext (w w' : World) : Prop := Below w.heap.size w w' ∧ ∀ p, w'.frozen? p = w.frozen? p
theorem Ext.refl (w : World) : Ext w w := ⟨Below.refl _ _, fun _ => rfl⟩
theorem Ext.trans {a b c : World} (h : Ext a b) (k : Ext b c) : Ext a c := ⟨Below.trans h.1 (Below.mono k.1 h.1.size), fun p => (k.2 p).trans (h.2 p)⟩
theorem Ext.drew {a b : World} (h : Ext a b) : Ext a b.drew := ⟨Below.drew h.1, h.2⟩
theorem Ext.drewN {a b : World} (h : Ext a b) (n : Nat) : Ext a (b.drewN n) := ⟨below_drewN h.1 n, h.2⟩
theorem Ext.cells {a b : World} (h : Ext a b) (c : Array Value) (t : TypeId) : Ext a (b.alloc (.cells c t)) := ⟨Below.alloc h.1 h.1.size _, fun p => (frozen?_alloc_cells b c t p).trans (h.2 p)⟩
theorem Ext.map {a b : World} (h : Ext a b) (es : Array MapEntry) (n : Nat) : Ext a (b.alloc (.map es n)) := by
  refine ⟨Below.alloc h.1 h.1.size _, fun p => Eq.trans ?_ (h.2 p)⟩
  by_cases hp : p.block = b.heap.size
  · have e1 : (b.alloc (.map es n)).heap[p.block]? = some (.map es n) := by rw [hp]; exact (MapKept.heap_alloc b _).1
    have e2 : b.heap[p.block]? = none := by rw [hp]; simp
    simp [World.frozen?, e1, e2]
  · exact World.frozen?_alloc_old _ _ _ hp
theorem Ext.grown {a b : World} (h : Ext a b) : Grown a b := ⟨Below.frame h.1 _, h.2, h.1.size⟩

/-- A call through a function value that lies in a slot: the walk's step, taken ahead of any unfolding. -/
def callVal (v : Value) (xs : Array Value) : Sem Next := do
  let d ← Deferred.ofValue v xs
  invoke d.target d.args
@[go_sem ↓] theorem execOp_call_val (a : Act) (dst : Option Tmp) (t : Tmp) (xs : Array Operand) (ats : Array TypeId) (ty : TypeId) (pos : String) (after : Array Edge) (guard : Option (Nat × Bool)) :
    execOp a.eval { dst, op := .call { callee := .value (.tmp t), args := xs, argTypes := ats }, type := ty, pos, after, guard } = callVal (a.eval (.tmp t)) (xs.map a.eval) := rfl
@[go_sem ↓] theorem callVal_func (f : FuncId) (p q xs : Array Value) : callVal (.func (.func f) p q) xs = callFunc f (p ++ xs ++ q) := rfl

theorem alloc_set (w : World) (o o' : Obj) : ({ w.alloc o with heap := (w.alloc o).heap.setIfInBounds w.heap.size o' } : World) = w.alloc o' := by
  have h : (w.alloc o).heap.setIfInBounds w.heap.size o' = (w.alloc o').heap := by
    show (w.heap.push o).setIfInBounds w.heap.size o' = w.heap.push o'
    apply Array.toList_inj.1
    simp
  rw [h]; rfl

/-- A store of a new integer key into a map that lies in the last block. -/
theorem put_new {P : Program} {t k e : TypeId} (ht : P.underlying t = some (.map k e)) (hk : P.underlying k = some (.int .i64)) (w : World) (es : Array MapEntry) (c : Nat) (n : Int) (v : Value)
    (h : Instr.findNow (.int .i64) (.int .i64 n) es.toList 0 = some none) :
    (Instr.mapUpdate t (.map (some w.heap.size)) (.int .i64 n) v).run P (w.alloc (.map es c)) = .ok () (w.alloc (.map (es.push ⟨.int .i64 n, v, c⟩) (c + 1))) := by
  have hb : (w.alloc (.map es c)).heap[w.heap.size]? = some (.map es c) := (MapKept.heap_alloc w _).1
  simp only [Instr.mapUpdate, Sem.run_bind, run_underlying ht, Result.andThen, MapKept.run_getObj_map hb, MapKept.run_checkKey hk (k := .int .i64 n) rfl, MapKept.run_findKey hk h, MapKept.run_setObj_map _ hb, alloc_set]

theorem get_found {P : Program} {t k e : TypeId} (ht : P.underlying t = some (.map k e)) (hk : P.underlying k = some (.int .i64)) {w : World} {b : Nat} {es : Array MapEntry} {c : Nat} (hb : w.heap[b]? = some (.map es c)) {n : Int} {i : Nat} {v : Value}
    (h : Instr.findNow (.int .i64) (.int .i64 n) es.toList 0 = some (some (i, v))) :
    (Instr.lookup t (.map (some b)) (.int .i64 n) true).run P w = .ok (.tuple #[v, .bool true]) w := by
  simp [Instr.lookup, run_underlying ht, MapKept.run_getObj_map hb, MapKept.run_checkKey hk (k := .int .i64 n) rfl, MapKept.run_findKey hk h, Result.andThen]

theorem get_none {P : Program} {t k e : TypeId} (ht : P.underlying t = some (.map k e)) (hk : P.underlying k = some (.int .i64)) {w : World} {b : Nat} {es : Array MapEntry} {c : Nat} (hb : w.heap[b]? = some (.map es c)) {n : Int} {z : Value} (hz : (zeroValue e).run P w = .ok z w)
    (h : Instr.findNow (.int .i64) (.int .i64 n) es.toList 0 = some none) :
    (Instr.lookup t (.map (some b)) (.int .i64 n) true).run P w = .ok (.tuple #[z, .bool false]) w := by
  simp [Instr.lookup, run_underlying ht, MapKept.run_getObj_map hb, MapKept.run_checkKey hk (k := .int .i64 n) rfl, MapKept.run_findKey hk h, hz, Result.andThen]
end Go.Proofs.Ytacmidlhfcnkiaa
