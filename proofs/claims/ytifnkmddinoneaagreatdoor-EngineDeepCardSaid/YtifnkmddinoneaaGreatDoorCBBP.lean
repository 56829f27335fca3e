/- Layer 15: an engine that is new since a world; its calls. No condition. Layer 15: rows of cells that came in. No condition. Layer 15: rows of instructions, and of cells, of a law's own, side by side. Condition: they are short. -/
import Derived.Test.YtifnkmddinoneaaGreatDoorCBBN
import Derived.Test.YtifnkmddinoneaaGreatDoorCBAE
import Derived.Test.YtifnkmddinoneaaGreatDoorCBBO
import Derived.Maps.AppendAt
set_option maxRecDepth 100000
namespace Go.Proofs.YtifnkmddinoneaaGreatDoor
open Go.RowKit
set_option linter.unusedVariables false

@[go_sem ↓] theorem run_field_st0 (a b c : Int) (W : World) : (Instr.field 48 (.agg #[.int .i64 a, .int .i64 b, .int .i64 c]) 0).run Tryz.prog W = .ok (.int .i64 a) W := by kernel_rfl
@[go_sem ↓] theorem run_field_st1 (a b c : Int) (W : World) : (Instr.field 48 (.agg #[.int .i64 a, .int .i64 b, .int .i64 c]) 1).run Tryz.prog W = .ok (.int .i64 b) W := by kernel_rfl
@[go_sem ↓] theorem run_field_st2 (a b c : Int) (W : World) : (Instr.field 48 (.agg #[.int .i64 a, .int .i64 b, .int .i64 c]) 2).run Tryz.prog W = .ok (.int .i64 c) W := by kernel_rfl
def Lw (w0 w : World) (A : Ag) (K : List (Nat × Option Obj)) (E : Es) : Prop := ∃ T, Eg w A T E ∧ Mod [] w0 w ∧ (∀ x ∈ T, w0.heap.size ≤ x) ∧ ∀ k ∈ K, k.1 ∉ T ∧ k.1 < w.heap.size ∧ w.heap[k.1]? = k.2
theorem Lw.step {w0 w w' : World} {A : Ag} {K : List (Nat × Option Obj)} {T T' : List Nat} {E' : Es} (m : Mod [] w0 w ∧ (∀ x ∈ T, w0.heap.size ≤ x) ∧ ∀ k ∈ K, k.1 ∉ T ∧ k.1 < w.heap.size ∧ w.heap[k.1]? = k.2) (tn : Tn T T' w w') (h : Eg w' A T' E') : Lw w0 w' A K E' :=
  ⟨T', h, m.1.then tn.m (fun x hx => Or.inr (m.2.1 x hx)), fun x hx => (tn.new x hx).elim (m.2.1 x) fun k => Nat.le_trans m.1.size k, fun k hk => by
    obtain ⟨k1, k2, k3⟩ := m.2.2 k hk
    exact ⟨fun hx => (tn.new _ hx).elim k1 fun h => by omega, Nat.lt_of_lt_of_le k2 tn.m.size, (tn.m.block _ k2 k1).trans k3⟩⟩
def Lw.Did (w0 : World) (A : Ag) (K : List (Nat × Option Obj)) (E' : Es) (v : Value) (e : Ending) (w' : World) : Prop := e = .returned v ∧ Lw w0 w' A K E'
section
variable {w0 w w' : World} {A : Ag} {K : List (Nat × Option Obj)} {E E1 E2 : Es}
theorem Lw.mod (h : Lw w0 w A K E) : Mod [] w0 w := by obtain ⟨T, _, m, _⟩ := h; exact m
theorem Lw.far (h : Lw w0 w A K E) (k : Mod [] w w') : Lw w0 w' A K E := by
  obtain ⟨T, h, m⟩ := h
  exact .step m (Tn.far k) (h.far k)
theorem Lw.kept (h : Lw w0 w A K E) {b : Nat} {o : Option Obj} (hk : (b, o) ∈ K) : w.heap[b]? = o := by obtain ⟨T, _, _, _, k⟩ := h; exact (k _ hk).2.2
theorem Lw.hold (h : Lw w0 w A K E) (k : Mod [] w w') {b : Nat} (hb : w.heap.size ≤ b) (hl : b < w'.heap.size) : Lw w0 w' A ((b, w'.heap[b]?) :: K) E := by
  obtain ⟨T, h, m, hT, hK⟩ := h
  refine ⟨T, h.far k, m.far k, hT, fun x hx => ?_⟩
  rcases List.mem_cons.1 hx with rfl | hx
  · exact ⟨fun hx => by have := h.tl _ hx; omega, hl, rfl⟩
  · obtain ⟨k1, k2, k3⟩ := hK x hx
    exact ⟨k1, Nat.lt_of_lt_of_le k2 k.size, (k.block _ k2 (by simp)).trans k3⟩
theorem Lw.less (h : Lw w0 w A K E) {K' : List (Nat × Option Obj)} (hs : ∀ x ∈ K', x ∈ K) : Lw w0 w A K' E := by
  obtain ⟨T, h, m, hT, hK⟩ := h
  exact ⟨T, h, m, hT, fun x hx => hK x (hs x hx)⟩
theorem Lw.plays (h : Lw w0 w A K E) {f : FuncId} {xs : Array Value} {v : Value} (c : ∀ T, Eg w A T E → Calls Tryz.prog f xs w (Plays A T w v E1)) : Calls Tryz.prog f xs w (Lw.Did w0 A K E1 v) := by
  obtain ⟨T, h, m⟩ := h
  exact (c T h).mono fun e w' ⟨he, T', h', tn⟩ => ⟨he, .step m tn h'⟩
theorem Lw.quiet (h : Lw w0 w A K E) {f : FuncId} {xs : Array Value} {v : Value} (c : ∀ T, Eg w A T E → Calls Tryz.prog f xs w fun e w' => e = .returned v ∧ w = w') : Calls Tryz.prog f xs w fun e w' => e = .returned v ∧ w = w' := by
  obtain ⟨T, h, m⟩ := h
  exact c T h
theorem Lw.state (h : Lw w0 w A K E) : Calls Tryz.prog 14 #[Pt A.g] w fun e w' => e = .returned (Pt A.a.s) ∧ w = w' := h.quiet fun T h => gstate_calls h
theorem Lw.stack (h : Lw w0 w A K E) : Calls Tryz.prog 15 #[Pt A.a.s] w fun e w' => e = .returned (Pt A.a.p) ∧ w = w' := h.quiet fun T h => h.sstack
theorem Lw.all (h : Lw w0 w A K E) : Calls Tryz.prog 32 #[Pt A.a.p] w fun e w' => ∃ b c, e = .returned (.slice (some ⟨b, 0, none⟩) E.C.length c) ∧ Ow w' b E.C c ∧ w.heap.size ≤ b ∧ Lw w0 w' A ((b, w'.heap[b]?) :: K) E ∧ Mod [] w w' := by
  obtain ⟨T, h1, m, hT⟩ := h
  have hh : Lw w0 w A K E := ⟨T, h1, m, hT⟩
  obtain ⟨v, Ts, Tf, Ti, hV⟩ := h1
  exact (all_calls hV.st.st).mono fun e w' ⟨b, c, e1, ho, hb, k⟩ => ⟨b, c, e1, ho, hb, hh.hold k hb ho.lt, k⟩
theorem Lw.exec (h : Lw w0 w A K E) (n : Int) (hn : (E.word n).isSome = true) : Calls Tryz.prog 19 #[Pt A.g, .int .i64 n] w (Lw.Did w0 A K { E with nx := n } (.int .i64 0)) := h.plays fun T h => exec_yes h n hn
theorem Lw.add (h : Lw w0 w A K E) (x : Wd) (hv : Valid E x) (ho : OkW x) (hr : E.W.length < 600) : Calls Tryz.prog 13 #[Pt A.g, wdV x] w (Lw.Did w0 A K { E with W := E.W ++ [x] } (.tuple #[.int .i64 ((E.W.length : Int) + 1), .int .i64 0])) := h.plays fun T h => eadd_calls h x hv ho hr
theorem Lw.define (h : Lw w0 w A K E) (g : L10.Good w) {B : Option Addr} {n cap : Nat} {l : List L10.Xi} (hL : L10.InsAt w B l) (hn : n = l.length) (hm : L10.MayP l (E.W.length : Int)) (hx : ∀ x ∈ l, OkX x) (hd : E.D.length < 300) (hB : ∀ b o, B = some ⟨b, o, none⟩ → b < w0.heap.size ∨ ∃ u, (b, u) ∈ K) :
    Calls Tryz.prog 12 #[Pt A.g, L10.defV B n cap] w (Lw.Did w0 A K { E with D := E.D ++ [l] } (.tuple #[.int .i64 ((E.D.length : Int) + 1), .int .i64 0])) := by
  obtain ⟨T, h, m, hT, hK⟩ := h
  exact (define_calls h g hL hn hm hx hd fun b o e hb => by
    rcases hB b o e with h1 | ⟨u, h1⟩
    · have := hT b hb; omega
    · exact (hK _ h1).1 hb).mono fun e w' ⟨he, T', h', tn⟩ => ⟨he, .step ⟨m, hT, hK⟩ tn h'⟩
theorem Lw.next (h : Lw w0 w A K E) {s : Sv} (k : Nxt E s E1) : Calls Tryz.prog 31 #[Pt A.g] w (Lw.Did w0 A K E1 (stV s)) := h.plays fun T h => nxt_calls h k
theorem Lw.run (h : Lw w0 w A K E) {k : Nat} (p : Pth k E E1) {s : Sv} (n : Nxt E1 s E2) (hs : s.1 ≠ 1) (most : Nat) (hk : k < most) (hm : most ≤ 100000) : Calls Tryz.prog 20 #[Pt A.g, .int .i64 (most : Int)] w (Lw.Did w0 A K E2 (stV s)) := h.plays fun T h => path_run h p n hs most hk hm
theorem lw_of {T : List Nat} (h : Eg w A T E) (m : Mod [] w0 w) (t : ∀ x ∈ T, w0.heap.size ≤ x) : Lw w0 w A [] E := ⟨T, h, m, t, by simp⟩
theorem lw_made (m : Mod [] w0 w) (hg : Good w) : Calls Tryz.prog 37 #[] w fun e w' => ∃ A, Lw.Did w0 A [] (newE [] (mu0 1024) [] 0) (Pt A.g) e w' ∧ Mod [] w w' :=
  (made15 w hg).mono fun e w' ⟨A, T, he, h, k, t⟩ => ⟨A, ⟨he, lw_of h (m.far k) fun x hx => Nat.le_trans m.size (t x hx)⟩, k⟩
theorem lw_built (m : Mod [] w0 w) (hg : Good w) : Calls Tryz.prog 11 #[] w fun e w' => ∃ A, Lw.Did w0 A [] (builtE 180) (Pt A.g) e w' ∧ Mod [] w w' :=
  (built15 w hg).mono fun e w' ⟨A, T, he, h, k, t⟩ => ⟨A, ⟨he, lw_of h (m.far k) fun x hx => Nat.le_trans m.size (t x hx)⟩, k⟩
end
theorem sl_row (w : World) (l : List Int) (t : TypeId) : Sl (w.alloc (.cells (cellsI l).toArray t)) (some ⟨w.heap.size, 0, none⟩) l := fun j hj => by
  refine ⟨w.heap.size, 0, rfl, ?_⟩
  have hb : (w.alloc (.cells (cellsI l).toArray t)).heap[w.heap.size]? = some (.cells (cellsI l).toArray t) := (MapKept.heap_alloc w _).1
  simp only [World.cell?, hb]
  simp [cellsI, hj]
theorem same_row {W : World} {b c : Nat} {X : List Int} (ho : Ow W b X c) {B : Option Addr} {m d : Nat} {Y : List Int} (ht : Sl W B Y) (hm : m = Y.length) (hb : X.length ≤ 9223372036854775807) (hb2 : Y.length ≤ 9223372036854775807) :
    Calls Tryz.prog 35 #[.slice (some ⟨b, 0, none⟩) X.length c, .slice B m d] W (SameR X Y W) := same_calls ho.sl ht rfl hm hb hb2
theorem ins_lit (W : World) (L : List L10.Xi) (hL : L.length ≤ 1000000) (hw : ∀ x ∈ L, L10.WellX x) (cs : Array Value) (hcs : cs = (L10.flatsX L).toArray) : L10.InsAt (W.alloc (.cells cs 61)) (some ⟨W.heap.size, 0, none⟩) L :=
  L10.Xm.ins (w0 := W) (n := L.length) (cap := L.length) ⟨L10.Xr.lit W W.heap.size (Nat.le_refl _) L hL cs hcs, (Mod.refl [] W).alloc _, hw⟩
theorem okX_of (x : L10.Xi) (h1 : 1 ≤ x.op ∧ x.op ≤ 15) (h2 : 0 ≤ x.a ∧ x.a ≤ 1000) (h3 : I64 x.w) : OkX x := ⟨h1.1, h1.2, h2.1, h2.2, h3⟩
theorem wellX_of {x : L10.Xi} (h : OkX x) : L10.WellX x := ⟨by have := h.2.1; omega, by have := h.2.2.1; have := h.2.2.2.1; unfold I64; omega, h.2.2.2.2⟩
theorem Lw.deflit {w0 w1 : World} {A : Ag} {K : List (Nat × Option Obj)} {E : Es} (h : Lw w0 w1 A K E) (g : L10.Good w0) (L : List L10.Xi) (hm : L10.MayP L (E.W.length : Int)) (hx : ∀ x ∈ L, OkX x) (hd : E.D.length < 300) (cs : Array Value) (hcs : cs = (L10.flatsX L).toArray) (n : Nat) (hn : n = L.length) {W : World} (k : Mod [] (w1.alloc (.cells cs 61)) W) :
    Calls Tryz.prog 12 #[Pt A.g, .agg #[.slice (some ⟨w1.heap.size, 0, none⟩) n n]] W (Lw.Did w0 A K { E with D := E.D ++ [L] } (.tuple #[.int .i64 ((E.D.length : Int) + 1), .int .i64 0])) := by
  have ma := (Mod.refl [] w1).alloc (.cells cs 61)
  have hl := ins_lit w1 L (by have := hm.1; omega) (fun x hx' => wellX_of (hx x hx')) cs hcs
  have h1 := (h.hold ma (Nat.le_refl _) (by rw [L14.size_allocI]; omega)).far k
  have := h1.define (g.far h1.mod) (hl.far k) (cap := n) hn hm hx hd fun b o e => by
    injection e with e
    injection e with e _ _
    subst e
    exact Or.inr ⟨_, List.mem_cons_self ..⟩
  exact this.mono fun e w' ⟨he, hh⟩ => ⟨he, hh.less fun x hx => by simp [hx]⟩
end Go.Proofs.YtifnkmddinoneaaGreatDoor
namespace Go.Proofs.YtifnkmddinoneaaGreatDoor
open Go.RowKit
set_option linter.unusedVariables false

/-- The row of a slice that came in, and its head of M cells. -/
structure Came13 (w : World) (A : Option Addr) (len cap M : Nat) (X : List Int) (k : Nat) : Prop where
  s : Sl w A X
  n : X.length = k
  e : k = min len M
  i : ∀ x ∈ X, I64 x
  c : k ≤ cap
  l : len ≤ cap
  m : cap ≤ 9223372036854775807
  a : A = none → cap = 0
  h : ∀ W, (Instr.sliceAt 25 (.slice A len cap) none (some (.int .i64 (k : Int))) none).run Tryz.prog W = .ok (.slice A k cap) W
theorem Tryz.sizeCellIn : ∀ w, (Go.sizeOf 33).run Tryz.prog w = .ok 1 w := fun w => by kernel_rfl
theorem cells_in (W : World) (A : Option Addr) (len cap k : Nat) (hk : k ≤ cap) : (Instr.sliceAt 25 (.slice A len cap) none (some (.int .i64 (k : Int))) none).run Tryz.prog W = .ok (.slice A k cap) W :=
  upto_in W _ _ Tryz.underlying25 Tryz.sizeCellIn A len cap k hk
theorem RowIn.came {w : World} {A : Option Addr} {len cap : Nat} {zs : List Int} (R : RowIn .i64 w A len cap zs) (M : Nat) : ∃ X k, Came13 w A len cap M X k := by
  rcases R with ⟨rfl, rfl, rfl, rfl⟩ | ⟨x, rfl, h1, h2, h3, h4, h5⟩
  · exact ⟨[], 0, Sl.nil _ _, rfl, by simp, by simp, Nat.le_refl _, Nat.le_refl _, by omega, fun _ => rfl, fun W => cells_in W _ _ _ 0 (Nat.le_refl _)⟩
  · refine ⟨zs.take (min len M), min len M, fun j hj => ?_, by simp; omega, rfl, fun y hy => i64_of_wf (h5 y (List.mem_of_mem_take hy)), by omega, h1, by unfold maxLen at h2; omega, by simp, fun W => cells_in W _ _ _ _ (by omega)⟩
    have hj' : j < zs.length := by simp at hj; omega
    have hc := h4 j hj'
    have e : (zs.take (min len M))[j] = zs.getD j 0 := by simp [List.getD, List.getElem?_eq_getElem hj']
    rw [e]
    have hsp : x.spot = none := by
      have h0 := h4 0 (by omega)
      rw [add_zero_in] at h0
      exact World.cell?_spot h0
    obtain ⟨b, o, sp⟩ := x
    cases sp with
    | none =>
      refine ⟨b, o, rfl, ?_⟩
      have : (⟨b, o, none⟩ : Addr).add j = ⟨b, o + j, none⟩ := by unfold Addr.add; split <;> simp_all
      rw [← this]
      exact hc
    | some s => simp at hsp
end Go.Proofs.YtifnkmddinoneaaGreatDoor
namespace Go.Proofs.YtifnkmddinoneaaGreatDoor
open Go.RowKit
set_option linter.unusedVariables false
def appCel (ty : TypeId) (xs : Array Value) : Sem Value := Builtin.append_ #[25, 25] ty xs
@[go_sem ↓ high] theorem builtin_appCel (ty : TypeId) (cs : Array Bool) (xs : Array Value) : builtin .append #[25, 25] ty cs xs = (do pure (.value (← appCel ty xs))) := rfl
def Xc (w : World) (base : Nat) (v : Value) (X : List Int) : Prop := w.ownsRow base 33 1 v X.length (cellsI X)
theorem cellsI_app (X Y : List Int) : cellsI (X ++ Y) = cellsI X ++ cellsI Y := by simp [cellsI]
section
variable {w w' : World} {base : Nat} {v : Value} {S : List Nat}
theorem row_turn {e : TypeId} {k n : Nat} {xs : List Value} (h : w.ownsRow base e k v n xs) (m : Mod S w w') (hS : ∀ g, v.ownBlock = some g → g ∉ S) : w'.ownsRow base e k v n xs := by
  refine ⟨h.1, h.2.elim Or.inl fun ⟨g, cap, cur, h1, h2, h3, h4⟩ => Or.inr ⟨g, cap, cur, h1, h2, ?_, h4⟩⟩
  subst h1
  rw [m.block g (Array.getElem?_eq_some_iff.1 h3).1 (hS g rfl)]
  exact h3
theorem Xc.nil (w : World) (base : Nat) : Xc w base (.slice none 0 0) [] := ⟨rfl, .inl ⟨rfl, rfl⟩⟩
theorem Xc.sl {A : Option Addr} {n c : Nat} {X : List Int} (h : Xc w base (.slice A n c) X) : Sl w A X ∧ n = X.length ∧ (A = none → c = 0) ∧ n ≤ c ∧ c ≤ 9223372036854775807 := by
  have hm : maxLen = 9223372036854775807 := rfl
  rcases h.2 with ⟨e, h0⟩ | ⟨g, cap, cur, e, h2, h3, h4, h5, h6, h7⟩
  · simp only [Value.slice.injEq] at e
    obtain ⟨rfl, rfl, rfl⟩ := e
    rw [List.length_eq_zero_iff.1 h0]
    exact ⟨Sl.nil _ _, rfl, fun _ => rfl, by omega, by omega⟩
  · simp only [Value.slice.injEq] at e
    obtain ⟨rfl, rfl, rfl⟩ := e
    refine ⟨fun j hj => ⟨g, 0, rfl, ?_⟩, rfl, by simp, h4, by omega⟩
    have := World.ownsRow.cellAt h j (by omega)
    rw [Nat.zero_add, this]
    simp [cellsI, hj]
theorem Xc.app {X : List Int} (h : Xc w base v X) (hb : base ≤ w.heap.size) (Y : List Int) (hl : X.length + Y.length ≤ 1000000) (ty : TypeId) (ad : Addr) (n cp : Nat) (hn : n = Y.length) (hc : ∀ j u, (cellsI Y)[j]? = some u → w.cell? (ad.add j) = some u) :
    ∃ A m cap w', (appCel ty #[v, .slice (some ad) n cp]).run Tryz.prog w = .ok (.slice A m cap) w' ∧ m = X.length + n ∧ Xc w' base (.slice A m cap) (X ++ Y) ∧ Mod v.ownBlock.toList w w' ∧ ((Value.slice A m cap).ownBlock = v.ownBlock ∨ (Value.slice A m cap).ownBlock = some w.heap.size) := by
  subst hn
  obtain ⟨i, hi, hz0, hz1, hz2⟩ := info_parts Tryz.infoCell
  have hm : maxLen = 9223372036854775807 := rfl
  obtain ⟨v', w', h1, h2, h3, _, h5⟩ := run_append_own_at (P := Tryz.prog) w base 25 ty 33 i _ 1 8 Tryz.underlying25 hi hz0 hz1 hz2 rfl (by decide) _ _ _ h ad Y.length cp (cellsI Y) (by simp [cellsI]) hc (fun u hu => by
    unfold cellsI at hu
    obtain ⟨x, _, rfl⟩ := List.mem_map.1 hu
    rfl) (by omega) (by omega) hb
  have h2' : Xc w' base v' (X ++ Y) := by
    unfold Xc
    rw [List.length_append, cellsI_app]
    exact h2
  have hs : ∃ A cap, v' = .slice A (X.length + Y.length) cap := by
    rcases h2.2 with ⟨rfl, h0⟩ | ⟨g, cap, cur, rfl, _⟩
    · exact ⟨none, 0, by rw [h0]⟩
    · exact ⟨_, cap, rfl⟩
  obtain ⟨A, cap, rfl⟩ := hs
  exact ⟨A, _, cap, w', h1, rfl, h2', Mod.of_grown h3 (by simp), h5⟩
theorem xr_app {L : List L10.Xi} (h : L10.Xr w base v L) (hb : base ≤ w.heap.size) (Y : List L10.Xi) (hl : L.length + Y.length ≤ 1000000) (ty : TypeId) (ad : Addr) (n cp : Nat) (hn : n = Y.length) (hc : ∀ j u, (L10.flatsX Y)[j]? = some u → w.cell? (ad.add j) = some u) :
    ∃ A m cap w', (L10.appIns ty #[v, .slice (some ad) n cp]).run Tryz.prog w = .ok (.slice A m cap) w' ∧ m = L.length + n ∧ L10.Xr w' base (.slice A m cap) (L ++ Y) ∧ Mod v.ownBlock.toList w w' ∧ ((Value.slice A m cap).ownBlock = v.ownBlock ∨ (Value.slice A m cap).ownBlock = some w.heap.size) := by
  subst hn
  obtain ⟨i, hi, hz0, hz1, hz2⟩ := info_parts L10.infoIns
  have hm : maxLen = 9223372036854775807 := rfl
  obtain ⟨v', w', h1, h2, h3, _, h5⟩ := run_append_own_at (P := Tryz.prog) w base 22 ty 61 i _ 3 24 Tryz.underlying22 hi hz0 hz1 hz2 rfl (by decide) _ _ _ h ad Y.length cp (L10.flatsX Y) (L10.flatsX_len Y) hc (fun u hu => by
    obtain ⟨x, _, hx⟩ := List.mem_flatMap.1 hu
    simp [L10.flatX] at hx
    rcases hx with rfl | rfl | rfl <;> rfl) (by omega) (by omega) hb
  have h2' : L10.Xr w' base v' (L ++ Y) := by
    unfold L10.Xr
    rw [List.length_append, L10.flatsX_app]
    exact h2
  have hs : ∃ A cap, v' = .slice A (L.length + Y.length) cap := by
    rcases h2.2 with ⟨rfl, h0⟩ | ⟨g, cap, cur, rfl, _⟩
    · exact ⟨none, 0, by rw [h0]⟩
    · exact ⟨_, cap, rfl⟩
  obtain ⟨A, cap, rfl⟩ := hs
  exact ⟨A, _, cap, w', h1, rfl, h2', Mod.of_grown h3 (by simp), h5⟩
theorem lies_new (W : World) (l : List Value) (t : TypeId) : ∀ j u, l[j]? = some u → (W.alloc (.cells l.toArray t)).cell? ((⟨W.heap.size, 0, none⟩ : Addr).add j) = some u := fun j u hj => by
  rw [WideShapes.add_plain, Nat.zero_add, World.cell?_alloc_new, ← hj]
  simp
structure Rows2 (w0 w : World) (v : Value) (L : List L10.Xi) (u : Value) (X : List Int) : Prop where
  c : L10.Xr w w0.heap.size v L
  x : Xc w w0.heap.size u X
  ne : ∀ g, v.ownBlock = some g → u.ownBlock ≠ some g
  m : Mod [] w0 w
theorem Rows2.nil (w : World) : Rows2 w w (.slice none 0 0) [] (.slice none 0 0) [] := ⟨L10.Xr.nil _ _, Xc.nil _ _, fun g h => (by cases h), Mod.refl _ _⟩
section
variable {w0 : World} {u : Value} {L : List L10.Xi} {X : List Int}
theorem Rows2.far (h : Rows2 w0 w v L u X) (k : Mod [] w w') : Rows2 w0 w' v L u X := ⟨h.c.far k, row_turn h.x k (by simp), h.ne, h.m.far k⟩
theorem Rows2.ins (h : Rows2 w0 w v L u X) (Y : List L10.Xi) (hl : L.length + Y.length ≤ 1000000) (cs : Array Value) (hcs : cs = (L10.flatsX Y).toArray) (n : Nat) (hn : n = Y.length) :
    ∃ A m cap w', (L10.appIns 22 #[v, .slice (some ⟨w.heap.size, 0, none⟩) n n]).run Tryz.prog (w.alloc (.cells cs 61)) = .ok (.slice A m cap) w' ∧ m = L.length + n ∧ Rows2 w0 w' (.slice A m cap) (L ++ Y) u X := by
  subst hcs
  have ma := (Mod.refl [] w).alloc (.cells (L10.flatsX Y).toArray 61)
  have h' := h.far ma
  obtain ⟨A, m, cap, w', h1, h2, h3, h4, h5⟩ := xr_app h'.c h'.m.size Y hl 22 ⟨w.heap.size, 0, none⟩ n n hn (lies_new w _ _)
  refine ⟨A, m, cap, w', h1, h2, h3, row_turn h'.x h4 fun g hg hx => ?_, fun g hg hu => ?_, h'.m.then h4 fun y hy => Or.inr (h'.c.own y (by simpa using hy)).1⟩
  · exact h.ne g (by simpa using hx) hg
  · rcases h5 with e | e
    · exact h.ne g (by rw [← e]; exact hg) hu
    · rw [e] at hg
      injection hg with hg
      have := (World.ownsRow.lt h'.x g hu).2
      omega
theorem Rows2.cell (h : Rows2 w0 w v L u X) (y : Int) (hl : X.length ≤ 100000) :
    ∃ A m cap w', (appCel 25 #[u, .slice (some ⟨w.heap.size, 0, none⟩) 1 1]).run Tryz.prog (w.alloc (.cells #[.int .i64 y] 33)) = .ok (.slice A m cap) w' ∧ m = X.length + 1 ∧ Rows2 w0 w' v L (.slice A m cap) (X ++ [y]) := by
  have ma := (Mod.refl [] w).alloc (.cells #[.int .i64 y] 33)
  have h' := h.far ma
  obtain ⟨A, m, cap, w', h1, h2, h3, h4, h5⟩ := h'.x.app h'.m.size [y] (by simp; omega) 25 ⟨w.heap.size, 0, none⟩ 1 1 rfl (lies_new w [.int .i64 y] _)
  refine ⟨A, m, cap, w', h1, h2, row_turn h'.c h4 fun g hg hx => ?_, h3, fun g hg hu => ?_, h'.m.then h4 fun y hy => Or.inr (World.ownsRow.lt h'.x y (by simpa using hy)).1⟩
  · exact h.ne g hg (by simpa using hx)
  · rcases h5 with e | e
    · exact h.ne g hg (by rw [← e]; exact hu)
    · rw [e] at hu
      injection hu with hu
      have := (World.ownsRow.lt h'.c g hg).2
      omega
theorem Rows2.shape (h : Rows2 w0 w v L u X) : (∃ A c, v = .slice A L.length c) ∧ ∃ A c, u = .slice A X.length c := by
  constructor
  · rcases h.c.2 with ⟨e, h0⟩ | ⟨g, cap, cur, e, _⟩
    · exact ⟨none, 0, by rw [h0]; exact e⟩
    · exact ⟨_, _, e⟩
  · rcases h.x.2 with ⟨e, h0⟩ | ⟨g, cap, cur, e, _⟩
    · exact ⟨none, 0, by rw [h0]; exact e⟩
    · exact ⟨_, _, e⟩
end
end
theorem Lw.holds {w0 w w' : World} {A : Ag} {K : List (Nat × Option Obj)} {E : Es} (h : Lw w0 w A K E) (k : Mod [] w w') (B : List Nat) (hB : ∀ b ∈ B, w.heap.size ≤ b ∧ b < w'.heap.size) : Lw w0 w' A (B.map (fun b => (b, w'.heap[b]?)) ++ K) E := by
  obtain ⟨T, h, m, hT, hK⟩ := h
  refine ⟨T, h.far k, m.far k, hT, fun x hx => ?_⟩
  rcases List.mem_append.1 hx with hx | hx
  · obtain ⟨b, hb, rfl⟩ := List.mem_map.1 hx
    obtain ⟨b1, b2⟩ := hB b hb
    exact ⟨fun hx => by have := h.tl _ hx; dsimp only at this; omega, b2, rfl⟩
  · obtain ⟨k1, k2, k3⟩ := hK x hx
    exact ⟨k1, Nat.lt_of_lt_of_le k2 k.size, (k.block _ k2 (by simp)).trans k3⟩
theorem Rows2.held {w0 w2 w : World} {A : Ag} {E : Es} {v u : Value} {L : List L10.Xi} {X : List Int} (h : Rows2 w2 w v L u X) (hE : Lw w0 w2 A [] E) : Lw w0 w A ((v.ownBlock.toList ++ u.ownBlock.toList).map (fun b => (b, w.heap[b]?)) ++ []) E :=
  hE.holds h.m _ fun b hb => by
    rcases List.mem_append.1 hb with hb | hb
    · exact h.c.own b (by simpa using hb)
    · exact World.ownsRow.lt h.x b (by simpa using hb)
theorem row_kept {w w' : World} {base n k : Nat} {v : Value} {xs : List Value} {t : TypeId} (h : w.ownsRow base t k v n xs) (e : ∀ g, v.ownBlock = some g → w'.heap[g]? = w.heap[g]?) : w'.ownsRow base t k v n xs := by
  refine ⟨h.1, h.2.elim Or.inl fun ⟨g, cap, cur, h1, h2, h3, h4⟩ => Or.inr ⟨g, cap, cur, h1, h2, ?_, h4⟩⟩
  rw [e g (by rw [h1]; rfl)]; exact h3
theorem Rows2.cells {w0 w2 w W : World} {A : Ag} {E E' : Es} {v u : Value} {L : List L10.Xi} {X : List Int} (h : Rows2 w2 w v L u X) (hW : Lw w0 W A ((v.ownBlock.toList ++ u.ownBlock.toList).map (fun b => (b, w.heap[b]?)) ++ []) E') : Xc W w2.heap.size u X :=
  row_kept h.x fun g hg => hW.kept (List.mem_append.2 (Or.inl (List.mem_map.2 ⟨g, List.mem_append.2 (Or.inr (by rw [hg]; simp)), rfl⟩)))
theorem Rows2.insAt {w0 w : World} {A : Option Addr} {n c : Nat} {u : Value} {L : List L10.Xi} {X : List Int} (h : Rows2 w0 w (.slice A n c) L u X) (hw : ∀ x ∈ L, OkX x) : L10.InsAt w A L := L10.Xm.ins (w0 := w0) (n := n) (cap := c) ⟨h.c, h.m, fun x hx => wellX_of (hw x hx)⟩
theorem same_true {w : World} {A B : Option Addr} {n m c d : Nat} {X : List Int} (hs : Sl w A X) (ht : Sl w B X) (hn : n = X.length) (hm : m = X.length) (hb : X.length ≤ 1000000) :
    Calls Tryz.prog 35 #[.slice A n c, .slice B m d] w fun e w' => e = .returned (.bool true) ∧ Mod [] w w' :=
  (same_calls hs ht hn hm (by omega) (by omega)).mono fun e w' ⟨he, hm⟩ => ⟨by rw [he, decide_eq_true rfl], hm⟩
theorem Rows2.define {w0 w2 w : World} {A : Ag} {E : Es} {B : Option Addr} {n c : Nat} {u : Value} {L : List L10.Xi} {X : List Int} (h : Rows2 w2 w (.slice B n c) L u X) (hE : Lw w0 w2 A [] E) (g : L10.Good w0) (hm : L10.MayP L (E.W.length : Int)) (hx : ∀ x ∈ L, OkX x) (hd : E.D.length < 300) :
    Calls Tryz.prog 12 #[Pt A.g, .agg #[.slice B n c]] w (Lw.Did w0 A (((Value.slice B n c).ownBlock.toList ++ u.ownBlock.toList).map (fun b => (b, w.heap[b]?)) ++ []) { E with D := E.D ++ [L] } (.tuple #[.int .i64 ((E.D.length : Int) + 1), .int .i64 0])) := by
  have hh := h.held hE
  refine hh.define (g.far hh.mod) (h.insAt hx) (L10.Xr.len h.c).1 hm hx hd fun b o e => ?_
  subst e
  exact Or.inr ⟨_, List.mem_append.2 (Or.inl (List.mem_map.2 ⟨b, by simp [Value.ownBlock], rfl⟩))⟩
theorem Came13.at_ {w W : World} {A : Option Addr} {len cap M : Nat} {X : List Int} {k : Nat} (h : Came13 w A len cap M X k) (m : Mod [] w W) {j : Nat} (hj : j < k) : ∃ b o c, A = some ⟨b, o, none⟩ ∧ W.cell? ⟨b, o + j, none⟩ = some (.int .i64 c) ∧ X[j]? = some c ∧ I64 c := by
  have hj' : j < X.length := by rw [h.n]; exact hj
  obtain ⟨b, o, e, hc⟩ := (h.s.far m) j hj'
  exact ⟨b, o, X[j], e, hc, List.getElem?_eq_getElem hj', h.i _ (List.getElem_mem hj')⟩
end Go.Proofs.YtifnkmddinoneaaGreatDoor
