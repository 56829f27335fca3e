/- What calls turn: blocks of a list, and new ones; rows of cells of the call's own; cells that lie where a slice begins. No condition. -/
import Derived.Test.YtacmidlhfcnkiaaC1Base
import Derived.Test.YtacmidlhfcnkiaaNum
import Derived.Laws.OwnMore
import Derived.Laws.IdiomCopy
import Derived.Deep.RegionLaw
namespace Go.Proofs.Ytacmidlhfcnkiaa
open Go.RowKit
set_option linter.unusedVariables false

/-- w' is w but for the blocks of S, and for new ones. -/
structure Mod (S : List Nat) (w w' : World) : Prop where
  os : w'.os = w.os
  tape : w'.tape = w.tape
  output : w'.output = w.output
  size : w.heap.size ≤ w'.heap.size
  block : ∀ k, k < w.heap.size → k ∉ S → w'.heap[k]? = w.heap[k]?
theorem Mod.refl (S : List Nat) (w : World) : Mod S w w := ⟨rfl, rfl, rfl, Nat.le_refl _, fun _ _ _ => rfl⟩
theorem Mod.then {S T : List Nat} {a b c : World} (h : Mod S a b) (k : Mod T b c) (hT : ∀ x ∈ T, x ∈ S ∨ a.heap.size ≤ x) : Mod S a c :=
  ⟨k.os.trans h.os, k.tape.trans h.tape, k.output.trans h.output, Nat.le_trans h.size k.size, fun i hi hs =>
    (k.block i (Nat.lt_of_lt_of_le hi h.size) (fun ht => (hT i ht).elim hs (by omega))).trans (h.block i hi hs)⟩
theorem Mod.trans {S : List Nat} {a b c : World} (h : Mod S a b) (k : Mod S b c) : Mod S a c := h.then k fun _ hx => Or.inl hx
theorem Mod.far {S : List Nat} {a b c : World} (h : Mod S a b) (k : Mod [] b c) : Mod S a c := h.then k (by simp)
theorem Mod.far1 {S : List Nat} {a b c : World} {p : Nat} (h : Mod S a b) (k : Mod [p] b c) (hp : a.heap.size ≤ p) : Mod S a c := h.then k (by simp; exact Or.inr hp)
theorem Mod.up {S T : List Nat} {a b : World} (h : Mod S a b) (hT : ∀ x ∈ S, x ∈ T) : Mod T a b := ⟨h.os, h.tape, h.output, h.size, fun k hk ht => h.block k hk fun hs => ht (hT k hs)⟩
theorem Mod.drew {S : List Nat} {a b : World} (h : Mod S a b) : Mod S a b.drew := ⟨h.os, h.tape, h.output, h.size, h.block⟩
theorem Mod.drewN {S : List Nat} {a b : World} (h : Mod S a b) (n : Nat) : Mod S a (b.drewN n) := by
  have k := below_drewN (Below.refl b.heap.size b) n
  exact h.then (S := S) (T := []) ⟨k.os, k.tape, k.output, k.size, fun i hi _ => k.block i hi⟩ (by simp)
theorem Mod.alloc {S : List Nat} {a b : World} (h : Mod S a b) (o : Obj) : Mod S a (b.alloc o) := by
  have k := Below.alloc (Below.refl b.heap.size b) (Nat.le_refl _) o
  exact h.then (T := []) ⟨k.os, k.tape, k.output, k.size, fun i hi _ => k.block i hi⟩ (by simp)
theorem Mod.set {S : List Nat} {a b : World} (h : Mod S a b) {x : Addr} (hx : x.block ∈ S ∨ a.heap.size ≤ x.block) (v : Value) : Mod S a (b.setCell x v) :=
  h.then (T := [x.block]) ⟨rfl, rfl, rfl, by simp [World.setCell], fun k _ h1 => Below.heap_setCell _ _ _ _ (by simpa [eq_comm] using h1)⟩ (by simpa using hx)
theorem Mod.sets {S : List Nat} {a b : World} (h : Mod S a b) {x : Nat} (hx : x ∈ S ∨ a.heap.size ≤ x) : ∀ (vs : List Value) (o : Nat), Mod S a (b.setCells x o vs) := by
  intro vs
  induction vs generalizing b with
  | nil => intro o; exact h
  | cons v r ih => intro o; exact ih (h.set (x := ⟨x, o, none⟩) hx v) (o + 1)
theorem Mod.below {a b : World} (h : Mod [] a b) : Below a.heap.size a b := ⟨h.os, h.tape, h.output, h.size, fun k hk => h.block k hk (by simp)⟩
theorem Mod.of_below {a b : World} (h : Below a.heap.size a b) : Mod [] a b := ⟨h.os, h.tape, h.output, h.size, fun k hk _ => h.block k hk⟩
theorem Mod.cell {S : List Nat} {a b : World} (h : Mod S a b) {x : Addr} {v : Value} (hx : x.block ∉ S) (hc : a.cell? x = some v) : b.cell? x = some v :=
  (World.cell?_of_block (h.block x.block (World.block_lt_of_cell? a x hc) hx)).trans hc
theorem Mod.frozen {S : List Nat} {a b : World} (h : Mod S a b) {x : Addr} (hx : x.block ∉ S) (hl : x.block < a.heap.size) : b.frozen? x = a.frozen? x :=
  World.frozen?_of_block (h.block x.block hl hx)
theorem Mod.of_grown {a b : World} {r : Option Nat} (h : a.grownBy b r) {S : List Nat} (hr : ∀ k, r = some k → k ∈ S) : Mod S a b :=
  ⟨h.os, h.tape, h.output, h.size, fun k hk hs => h.block k hk fun e => hs (hr k e.symm)⟩

def cellsI (l : List Int) : List Value := l.map (Value.int .i64)
theorem cellsI_len (l : List Int) : (cellsI l).length = l.length := by simp [cellsI]
theorem cellsI_get (l : List Int) (i : Nat) (h : i < l.length) : (cellsI l)[i]? = some (.int .i64 l[i]) := by simp [cellsI, h]

/-- The cells X lie where A tells. -/
def Sl (w : World) (A : Option Addr) (X : List Int) : Prop := ∀ j (hj : j < X.length), ∃ b off, A = some ⟨b, off, none⟩ ∧ w.cell? ⟨b, off + j, none⟩ = some (.int .i64 X[j])
theorem Sl.nil (w : World) (A : Option Addr) : Sl w A [] := fun j hj => absurd hj (by simp)
theorem Sl.mod {S : List Nat} {w w' : World} {A : Option Addr} {X : List Int} (h : Sl w A X) (k : Mod S w w') (hS : ∀ a, A = some a → a.block ∉ S) : Sl w' A X := fun j hj => by
  obtain ⟨b, off, rfl, hc⟩ := h j hj
  exact ⟨b, off, rfl, k.cell (show b ∉ S from hS ⟨b, off, none⟩ rfl) hc⟩
theorem Sl.far {w w' : World} {A : Option Addr} {X : List Int} (h : Sl w A X) (k : Mod [] w w') : Sl w' A X := h.mod k (by simp)
theorem Sl.take {w : World} {A : Option Addr} {X : List Int} (h : Sl w A X) (k : Nat) : Sl w A (X.take k) := fun j hj => by
  have hj' : j < X.length := by simp at hj; omega
  obtain ⟨b, off, rfl, hc⟩ := h j hj'
  exact ⟨b, off, rfl, by rw [hc]; simp⟩
theorem Sl.src {w : World} {a : Addr} {X : List Int} (h : Sl w (some a) X) : ∀ j v, (cellsI X)[j]? = some v → w.cell? (a.add j) = some v := fun j v hv => by
  have hj : j < X.length := by
    have := (List.getElem?_eq_some_iff.1 hv).1
    rwa [cellsI_len] at this
  obtain ⟨b, off, e, hc⟩ := h j hj
  injection e with e
  subst e
  have hadd : (⟨b, off, none⟩ : Addr).add j = ⟨b, off + j, none⟩ := by unfold Addr.add; split <;> simp_all
  rw [hadd, hc, ← hv, cellsI_get X j hj]
theorem one_cells (X : List Int) : ∀ u ∈ cellsI X, u.oneCell' = true := fun u hu => by
  obtain ⟨x, _, rfl⟩ := List.mem_map.1 hu
  rfl
/-- Block b is a row of cells of one's own: c of them, X at its head. -/
def Ow (w : World) (b : Nat) (X : List Int) (c : Nat) : Prop :=
  ∃ cur, w.heap[b]? = some (.cells cur 31 (0, 0)) ∧ cur.size = c ∧ X.length ≤ c ∧ c ≤ maxLen ∧ cur.toList.take X.length = cellsI X
theorem Ow.lt {w : World} {b c : Nat} {X : List Int} (h : Ow w b X c) : b < w.heap.size := by
  obtain ⟨cur, hc, _⟩ := h
  exact (Array.getElem?_eq_some_iff.1 hc).1
theorem Ow.owns {w : World} {b c : Nat} {X : List Int} (h : Ow w b X c) : w.ownsRow b 31 1 (.slice (some ⟨b, 0, none⟩) X.length c) X.length (cellsI X) := by
  obtain ⟨cur, h1, h2, h3, h4, h5⟩ := h
  exact ⟨by simp [cellsI], .inr ⟨b, c, cur, rfl, Nat.le_refl _, h1, h3, h4, by omega, by simpa using h5⟩⟩
theorem Ow.cell {w : World} {b c : Nat} {X : List Int} (h : Ow w b X c) (i : Nat) (hi : i < X.length) : w.cell? ⟨b, i, none⟩ = some (.int .i64 X[i]) := by
  rw [h.owns.cellAt i (by omega), cellsI_get X i hi]
theorem Ow.free {w : World} {b c : Nat} {X : List Int} (h : Ow w b X c) (i : Nat) : w.frozen? ⟨b, i, none⟩ = false := h.owns.frozenAt i
theorem Ow.sl {w : World} {b c : Nat} {X : List Int} (h : Ow w b X c) : Sl w (some ⟨b, 0, none⟩) X := fun j hj => ⟨b, 0, rfl, by rw [Nat.zero_add]; exact h.cell j hj⟩
theorem Ow.mod {S : List Nat} {w w' : World} {b c : Nat} {X : List Int} (h : Ow w b X c) (k : Mod S w w') (hS : b ∉ S) : Ow w' b X c := by
  have hl := h.lt
  obtain ⟨cur, h1, h2⟩ := h
  exact ⟨cur, (k.block b hl hS).trans h1, h2⟩
theorem Ow.take {w : World} {b c : Nat} {X : List Int} (h : Ow w b X c) (k : Nat) : Ow w b (X.take k) c := by
  obtain ⟨cur, h1, h2, h3, h4, h5⟩ := h
  refine ⟨cur, h1, h2, by simp; omega, h4, ?_⟩
  have : cur.toList.take (X.take k).length = (cur.toList.take X.length).take k := by
    rw [List.take_take, List.length_take]
  rw [this, h5]
  simp [cellsI]
theorem Ow.new (w : World) (X : List Int) (h : X.length ≤ maxLen) : Ow (w.alloc (.cells (cellsI X).toArray 31)) w.heap.size X X.length :=
  ⟨(cellsI X).toArray, (MapKept.heap_alloc w _).1, by simp [cellsI], Nat.le_refl _, h, by rw [← cellsI_len X, List.toList_toArray, List.take_length]⟩
theorem Try.infoCell : (Try.prog.info? 31).map (fun i => (i.zero, i.size, i.bytes)) = some (some (.int .i64 0), 1, 8) := by kernel_rfl
/-- One append onto a row of one's own. -/
theorem run_app {w : World} {b c : Nat} {X Y : List Int} (h : Ow w b X c) {A : Option Addr} (hs : Sl w A Y) (ty : TypeId) (n cap : Nat) (hn : n = Y.length) (hA : A = none → cap = 0) (hb : X.length + Y.length ≤ 1000000000) :
    ∃ b' c' w', (Builtin.append_ #[32, 32] ty #[.slice (some ⟨b, 0, none⟩) X.length c, .slice A n cap]).run Try.prog w = .ok (.slice (some ⟨b', 0, none⟩) (X ++ Y).length c') w' ∧ Ow w' b' (X ++ Y) c' ∧ Mod [b] w w' ∧ b ≤ b' := by
  subst hn
  obtain ⟨i, hi, hz0, hz1, hz2⟩ := info_parts Try.infoCell
  have hm : maxLen = 9223372036854775807 := rfl
  have key : ∀ base, base ≤ w.heap.size → w.ownsRow base 31 1 (.slice (some ⟨b, 0, none⟩) X.length c) X.length (cellsI X) → ∃ v' w', (Builtin.append_ #[32, 32] ty #[.slice (some ⟨b, 0, none⟩) X.length c, .slice A Y.length cap]).run Try.prog w = .ok v' w' ∧ w'.ownsRow base 31 1 v' (X.length + Y.length) (cellsI X ++ cellsI Y) ∧ w.grownBy w' (some b) ∧ (v' = .slice none 0 0 → False) := fun base hbase hown => by
    cases A with
    | none =>
      have hY : Y = [] := List.eq_nil_of_length_eq_zero (by
        refine Nat.eq_zero_of_not_pos fun hp => ?_
        obtain ⟨_, _, e, _⟩ := hs 0 hp
        cases e)
      subst hY
      have hcap := hA rfl
      subst hcap
      refine ⟨_, _, run_append_owned_none (P := Try.prog) (w := w) base 32 ty 31 i 1 Try.underlying32 hi _ _ _ hown, ?_, ⟨rfl, rfl, rfl, Nat.le_refl _, fun _ _ _ => rfl⟩, fun e => by cases e⟩
      simpa [cellsI] using hown
    | some a =>
      obtain ⟨v', w', h1, h2, h3, h4⟩ := run_append_own (P := Try.prog) w base 32 ty 31 i (.int .i64 0) 1 8 Try.underlying32 hi hz0 hz1 hz2 rfl (by decide) _ _ _ hown a Y.length cap (cellsI Y) (by simp [cellsI]) hs.src (one_cells Y) (by omega) (by omega) hbase
      exact ⟨v', w', h1, h2, h3, fun e => by have := (h4.1 e).1; cases this⟩
  have hlt := h.lt
  have shape : ∀ base v' w', w'.ownsRow base 31 1 v' (X.length + Y.length) (cellsI X ++ cellsI Y) → (v' = .slice none 0 0 → False) → ∃ b' c', v' = .slice (some ⟨b', 0, none⟩) (X ++ Y).length c' ∧ Ow w' b' (X ++ Y) c' ∧ base ≤ b' := fun base v' w' ho hv => by
    obtain ⟨ho1, ho2⟩ := ho
    rcases ho2 with ⟨e, _⟩ | ⟨g, cp, cur, e, hbg, hg, h3, h4, h5, h6⟩
    · exact absurd e hv
    · refine ⟨g, cp, by rw [e, List.length_append], ⟨cur, hg, by omega, by rw [List.length_append]; exact h3, h4, ?_⟩, hbg⟩
      rw [List.length_append]
      simpa [cellsI] using h6
  obtain ⟨v', w', h1, h2, h3, h4⟩ := key b (by omega) h.owns
  obtain ⟨b', c', rfl, ho, hbb⟩ := shape _ _ _ h2 h4
  exact ⟨b', c', w', h1, ho, Mod.of_grown h3 (by simp), hbb⟩
theorem wpList_app {w : World} {ops : Array Oper} {rest : List Oper} {o : Oper} {a : Act} {Q : Exit → Act → World → Prop} (hgd : o.guard = none) (s x : Operand)
    (ho : o.op = .call { callee := .builtin .append, args := #[s, x], argTypes := #[32, 32] })
    {b c n0 : Nat} {X Y : List Int} {A : Option Addr} {n cap : Nat} (h : Ow w b X c) (hs : Sl w A Y) (e1 : n0 = X.length) (e2 : n = Y.length) (hA : A = none → cap = 0) (hb : X.length + Y.length ≤ 1000000000)
    (v1 : a.eval s = .slice (some ⟨b, 0, none⟩) n0 c) (v2 : a.eval x = .slice A n cap)
    (hK : ∀ b' c' w', Ow w' b' (X ++ Y) c' → Mod [b] w w' → b ≤ b' → wpList Try.prog ops Q rest (a.put o.dst (.slice (some ⟨b', 0, none⟩) (n0 + n) c')) w') : wpList Try.prog ops Q (o :: rest) a w := by
  subst e1 e2
  obtain ⟨b', c', w', hr, h2, h3, h4⟩ := run_app h hs o.type Y.length cap rfl hA hb
  refine wpList_plain hgd fun K hk => ?_
  unfold Oper.wp execOp
  simp only [ho, resolve, invoke, builtin, Sem.run_bind, Sem.run_pure, Result.andThen_ok, List.map_toArray, List.map_cons, List.map_nil, v1, v2, hr]
  rw [List.length_append]
  exact hk _ _ (hK b' c' w' h2 h3 h4)
theorem clone_calls {w : World} {A : Option Addr} {n cap : Nat} {Y : List Int} (hs : Sl w A Y) (hn : n = Y.length) (a0 : Addr) (hA : A = some a0) (hb : Y.length ≤ 1000000000) :
    Calls Try.prog 42 #[.slice A n cap] w fun e w' => ∃ b c, e = .returned (.slice (some ⟨b, 0, none⟩) n c) ∧ Ow w' b Y c ∧ Mod [] w w' ∧ w.heap.size ≤ b := by
  subst hA
  have h0 := Ow.new w [] (Nat.zero_le _)
  have hO := Lib.hid h0
  have hS := Lib.hid (hs.far ((Mod.refl [] w).alloc (.cells (cellsI []).toArray 31)))
  have HN := Lib.hid hn
  have HB := Lib.hid (show ([] : List Int).length + Y.length ≤ 1000000000 by simpa using hb)
  have hM := Lib.hid ((Mod.refl [] w).alloc (.cells (cellsI []).toArray 31))
  have q : ∀ W, (binOp .eql 32 (.slice (some a0) n cap) (.slice none 0 0)).run Try.prog W = .ok (.bool false) W := fun W => Lib.run_eql_slice_nil W _ _ (some a0) n cap 0 0 Try.underlying32
  clear hs hn hb h0
  go_enter Try.func42, Try.ntmps42
  go_wp2_with (refine wpList_app rfl (.tmp 5) (.tmp 6) rfl hO.out hS.out rfl HN.out (fun h => by cases h) HB.out rfl rfl ?_)
  intro b' c' w' h1 h2 h3
  have H1 := Lib.hid h1
  have H2 := Lib.hid h2
  clear h1 h2
  go_wp2
  go_ret
  exact ⟨b', c', by simp, by simpa using H1.out, hM.out.far1 H2.out (Nat.le_refl _), h3⟩
end Go.Proofs.Ytacmidlhfcnkiaa
