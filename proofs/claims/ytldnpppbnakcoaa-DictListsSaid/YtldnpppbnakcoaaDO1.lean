/- Layer 9: what DictOrders needs: lists in which a name is, the first list of an order that has it. No condition. -/
import Derived.Test.YtldnpppbnakcoaaD9Z
import Derived.Test.YtldnpppbnakcoaaRowIn
namespace Go.Proofs.Ytldnpppbnakcoaa
open Go.RowKit
set_option linter.unusedVariables false

theorem inW_snoc (W : List We) (a : We) (l : Int) (n : List UInt8) : inW (W ++ [a]) l n = if isW l n a = true then some a else inW W l n := by
  unfold inW
  rw [List.reverse_append, List.reverse_singleton, List.singleton_append, List.find?_cons]
  cases isW l n a <;> simp
theorem findW_snoc (W : List We) (O : List Int) (l : Int) (n : List UInt8) : findW W (O ++ [l]) n = (findW W O n).or (inW W l n) := by
  unfold findW
  rw [List.findSome?_append]
  congr 1
  rw [List.findSome?_cons]
  cases inW W l n <;> simp
def lowN : List UInt8 := [110, 97, 109, 101]
def uppN : List UInt8 := [78, 65, 77, 69]
theorem fold_lowN : foldL lowN = foldL uppN := by decide
/-- Wt says of each list which word of the name it has last. -/
structure OrdI (W : List We) (Wt : List Int) : Prop where
  len : Wt.length = 9
  at_ : ∀ l : Nat, 1 ≤ l → l ≤ 8 → ∃ f, Wt[l]? = some f ∧ ((f = 0 ∧ inW W (l : Int) uppN = none) ∨ (0 < f ∧ ∃ a, inW W (l : Int) uppN = some a ∧ a.x = f))
theorem OrdI.start : OrdI [] (List.replicate 9 0) := ⟨rfl, fun l h1 h2 => ⟨0, by rw [List.getElem?_replicate, if_pos (by omega)], Or.inl ⟨rfl, rfl⟩⟩⟩
theorem OrdI.step {W : List We} {Wt : List Int} (h : OrdI W Wt) (k : Nat) (x : Int) (hk1 : 1 ≤ k) (hk8 : k ≤ 8) (hx : 0 < x) : OrdI (W ++ [⟨lowN, x, false, (k : Int)⟩]) (Wt.set k x) := by
  refine ⟨by rw [List.length_set]; exact h.len, fun l h1 h2 => ?_⟩
  rw [inW_snoc]
  by_cases e : l = k
  · subst e
    refine ⟨x, by rw [List.getElem?_set_self (by rw [h.len]; omega)], Or.inr ⟨hx, ⟨lowN, x, false, (l : Int)⟩, ?_, rfl⟩⟩
    rw [if_pos]
    simp [isW, fold_lowN]
  · obtain ⟨f, h3, h4⟩ := h.at_ l h1 h2
    refine ⟨f, by rw [List.getElem?_set_ne (by omega)]; exact h3, ?_⟩
    rw [if_neg]
    · exact h4
    · simp [isW]
      intro e2
      omega
def FirI (W : List We) (Y : List Int) (f : Int) : Prop := (f = 0 ∧ findW W Y uppN = none) ∨ (0 < f ∧ ∃ a, findW W Y uppN = some a ∧ a.x = f)
theorem FirI.start (W : List We) : FirI W [] 0 := Or.inl ⟨rfl, rfl⟩
theorem FirI.step {W : List We} {Wt : List Int} {Y : List Int} {f g : Int} (h : FirI W Y f) (hO : OrdI W Wt) (k : Nat) (hk1 : 1 ≤ k) (hk8 : k ≤ 8) (hg : Wt[k]? = some g) : FirI W (Y ++ [(k : Int)]) (if f = 0 then g else f) := by
  unfold FirI
  rw [findW_snoc]
  rcases h with ⟨rfl, h⟩ | ⟨h1, a, h2, h3⟩
  · rw [if_pos rfl, h]
    obtain ⟨g', e, h4⟩ := hO.at_ k hk1 hk8
    rw [hg] at e
    injection e with e
    subst e
    simpa using h4
  · rw [if_neg (by omega), h2]
    exact Or.inr ⟨h1, a, rfl, h3⟩
/-- What Find answers then. -/
theorem FirI.res {W : List We} {Y : List Int} {f : Int} (h : FirI W Y f) : ∃ N b, resE (findW W Y uppN) = .tuple #[.agg #[.string N, .int .i64 f, .bool b], .bool (decide (0 < f))] := by
  rcases h with ⟨rfl, h⟩ | ⟨h1, a, h2, h3⟩
  · exact ⟨_, _, by rw [h]; rfl⟩
  · exact ⟨_, _, by rw [h2, decide_eq_true h1, ← h3]; rfl⟩
theorem Du.setcur_yes {w0 w : World} {p : Nat} {U : List Nat} {D : Di} (h : Du w0 w p U D) (l : Int) (hl : D.known l = true) : Calls Try.prog 27 #[PtD p, .int .i64 l] w (Dus w0 p U (.int .i64 0) { D with c := l } w) := by
  have k := h.setcur l
  rw [hl] at k
  exact k
theorem Du.setcur_no {w0 w : World} {p : Nat} {U : List Nat} {D : Di} (h : Du w0 w p U D) (l : Int) (hl : D.known l = false) : Calls Try.prog 27 #[PtD p, .int .i64 l] w (Dus w0 p U (.int .i64 (-49)) D w) := by
  have k := h.setcur l
  rw [hl] at k
  exact k
theorem Du.list_yes {w0 w : World} {p : Nat} {U : List Nat} {D : Di} (h : Du w0 w p U D) (hk : D.k < 8) : Calls Try.prog 26 #[PtD p] w (Dus w0 p U (.tuple #[.int .i64 ((D.k + 1 : Nat) : Int), .int .i64 0]) { D with k := D.k + 1 } w) := by
  have k := h.list
  rw [if_pos hk, if_pos hk] at k
  exact k
theorem Du.list_no {w0 w : World} {p : Nat} {U : List Nat} {D : Di} (h : Du w0 w p U D) (hk : ¬ D.k < 8) : Calls Try.prog 26 #[PtD p] w (Dus w0 p U (.tuple #[.int .i64 0, .int .i64 (-49)]) D w) := by
  have k := h.list
  rw [if_neg hk, if_neg hk] at k
  exact k
theorem Du.add_yes {w0 w : World} {p : Nat} {U : List Nat} {D : Di} (h : Du w0 w p U D) (s : List UInt8) (x : Int) (h1 : 1 ≤ s.length) (h2 : s.length ≤ 31) (h3 : D.W.length < 2000) : Calls Try.prog 22 #[PtD p, .string (str s), .int .i64 x] w (Dus w0 p U (.int .i64 0) { D with W := D.W ++ [⟨s, x, false, D.c⟩] } w) := by
  have k := h.add s x (by omega)
  rw [show addR D s x = (0, { D with W := D.W ++ [⟨s, x, false, D.c⟩] }) by unfold addR; rw [if_neg (by omega), if_neg (by omega), if_neg (by omega)]] at k
  exact k
theorem Du.setord_yes {w0 w : World} {p : Nat} {U : List Nat} {D : Di} (h : Du w0 w p U D) {A : Option Addr} {n cap : Nat} {Y : List Int} (hY : IntsAt w A Y) (hn : n = Y.length) (hA : A = none → cap = 0) (h8 : n ≤ 8) (hk : D.knows Y = true) : Calls Try.prog 28 #[PtD p, .slice A n cap] w (Dus w0 p U (.int .i64 0) { D with O := Y } w) := by
  have k := h.setord hY hn hA (by omega)
  rw [show ordR D Y = (0, { D with O := Y }) by unfold ordR; rw [if_pos ⟨by omega, hk⟩]] at k
  exact k
theorem Du.setord_no {w0 w : World} {p : Nat} {U : List Nat} {D : Di} (h : Du w0 w p U D) {A : Option Addr} {n cap : Nat} {Y : List Int} (hY : IntsAt w A Y) (hn : n = Y.length) (hA : A = none → cap = 0) (hb : n ≤ 9223372036854775807) (hno : ¬ (Y.length ≤ 8 ∧ D.knows Y = true)) : Calls Try.prog 28 #[PtD p, .slice A n cap] w (Dus w0 p U (.int .i64 (-49)) D w) := by
  have k := h.setord hY hn hA hb
  rw [show ordR D Y = (-49, D) by unfold ordR; rw [if_neg hno]] at k
  exact k
/-- A row of nine numbers of one's own. -/
def Nine (w : World) (g : Nat) (Wt : List Int) : Prop := w.ownsRow 0 3 1 (.slice (some ⟨g, 0, none⟩) 9 9) 9 (intsV Wt)
theorem Nine.cell {w : World} {g : Nat} {Wt : List Int} (h : Nine w g Wt) (k : Nat) (hk : k < 9) (f : Int) (hf : Wt[k]? = some f) : w.cell? ⟨g, k, none⟩ = some (.int .i64 f) := by
  have := h.cellAt k (by omega)
  rw [this]
  simp [intsV, hf]
theorem Nine.free {w : World} {g : Nat} {Wt : List Int} (h : Nine w g Wt) (k : Nat) : w.frozen? ⟨g, k, none⟩ = false := h.frozenAt k
theorem Nine.keep {w w' : World} {g : Nat} {Wt : List Int} {U : List Nat} (h : Nine w g Wt) (m : Keep U w w') (hU : g ∈ U) : Nine w' g Wt := row_keep h m fun x hx => by
  have : x = g := by injection hx with hx; exact hx.symm
  rw [this]; exact hU
theorem Nine.lt {w : World} {g : Nat} {Wt : List Int} (h : Nine w g Wt) : g < w.heap.size := (World.ownsRow.lt h g rfl).2
theorem Nine.set {w : World} {g : Nat} {Wt : List Int} (h : Nine w g Wt) (k : Nat) (x : Int) : Nine (w.setCell ⟨g, k, none⟩ (.int .i64 x)) g (Wt.set k x) ∧ Mod [g] w (w.setCell ⟨g, k, none⟩ (.int .i64 x)) := by
  refine ⟨?_, (Mod.refl [g] w).set (x := ⟨g, k, none⟩) (Or.inl (by simp)) _⟩
  have := (World.ownsRow.stored h k (.int .i64 x)).1
  unfold Nine
  have e : intsV (Wt.set k x) = (intsV Wt).set k (.int .i64 x) := by simp [intsV, List.map_set]
  rw [e]
  simpa using this
theorem made_nine : madeCells (Value.int .i64 0).cells 9 = (intsV (List.replicate 9 0)).toArray := by kernel_rfl
theorem make_nine (w : World) : (Instr.makeSlice 29 (.int .i64 9) (.int .i64 9)).run Try.prog w = .ok (.slice (some ⟨w.heap.size, 0, none⟩) 9 9) (w.alloc (.cells (intsV (List.replicate 9 0)).toArray 3)) := by
  obtain ⟨i, hi, hz0, hz1, hz2⟩ := info_parts infoInt9
  have := run_make (P := Try.prog) w 29 3 i (.int .i64 0) Try.underlying29 hi hz0 .i64 .i64 9 9 (by omega) (Int.le_refl _) (by rw [hz2]; omega) (by omega)
  rw [this, hz1, ← made_nine]
  rfl
theorem Nine.new (w : World) : Nine (w.alloc (.cells (intsV (List.replicate 9 0)).toArray 3)) w.heap.size (List.replicate 9 0) := by
  have := World.ownsRow_lit (base := 0) (e := 3) (size := 1) w (intsV (List.replicate 9 0)).toArray 9 (Nat.zero_le _) (by decide) rfl
  exact this
/-- One number appended to a row of one's own. -/
theorem Ir.app1 {w : World} {base : Nat} {v : Value} {X : List Int} (h : Ir w base v X) (hb : base ≤ w.heap.size) (hl : X.length ≤ 1000000000) (ty : TypeId) (a : Addr) (cp : Nat) (c : Int) (hc : w.cell? (a.add 0) = some (.int .i64 c)) :
    ∃ v' w', (Builtin.append_ #[29, 29] ty #[v, .slice (some a) 1 cp]).run Try.prog w = .ok v' w' ∧ Ir w' base v' (X ++ [c]) ∧ w.grownBy w' v.ownBlock ∧ (v'.ownBlock = v.ownBlock ∨ v'.ownBlock = some w.heap.size) := by
  obtain ⟨i, hi, hz0, hz1, hz2⟩ := info_parts infoInt9
  have hm : maxLen = 9223372036854775807 := rfl
  obtain ⟨v', w', h1, h2, h3, h4, h5⟩ := run_append_own_at (P := Try.prog) w base 29 ty 3 i (.int .i64 0) 1 8 Try.underlying29 hi hz0 hz1 hz2 rfl (by decide) _ _ _ h a 1 cp (intsV [c]) (by simp [intsV])
    (fun j u hj => by
      have hj' := (List.getElem?_eq_some_iff.1 hj).1
      have : j = 0 := by simpa [intsV] using hj'
      subst this
      rw [hc, ← hj]; simp [intsV]) (fun u hu => by obtain ⟨x, _, rfl⟩ := List.mem_map.1 hu; rfl) (by omega) (by omega) hb
  refine ⟨v', w', h1, ?_, h3, h5⟩
  unfold Ir
  have e : (X ++ [c]).length = X.length + 1 := by simp
  have e2 : intsV (X ++ [c]) = intsV X ++ intsV [c] := by simp [intsV]
  rw [e, e2]
  exact h2
theorem wpList_appI {w : World} {ops : Array Oper} {rest : List Oper} {o : Oper} {a : Act} {Q : Exit → Act → World → Prop} (hgd : o.guard = none) (s x : Operand)
    (ho : o.op = .call { callee := .builtin .append, args := #[s, x], argTypes := #[29, 29] })
    {base : Nat} {v : Value} {X : List Int} (h : Ir w base v X) (hb : base ≤ w.heap.size) (hl : X.length ≤ 1000000000) (b : Addr) (cp : Nat) (c : Int) (hc : w.cell? (b.add 0) = some (.int .i64 c))
    (v1 : a.eval s = v) (v2 : a.eval x = .slice (some b) 1 cp)
    (hK : ∀ v' w', Ir w' base v' (X ++ [c]) → w.grownBy w' v.ownBlock → (v'.ownBlock = v.ownBlock ∨ v'.ownBlock = some w.heap.size) → wpList Try.prog ops Q rest (a.put o.dst v') w') : wpList Try.prog ops Q (o :: rest) a w := by
  obtain ⟨v', w', hr, h2, h3, h4⟩ := h.app1 hb hl o.type b cp c hc
  refine wpList_plain hgd fun K hk => ?_
  have hr2 : (appInts o.type #[v, .slice (some b) 1 cp]).run Try.prog w = .ok v' w' := hr
  unfold Oper.wp execOp
  simp only [ho, resolve, invoke, builtin, Sem.run_bind, Sem.run_pure, Result.andThen_ok, List.map_toArray, List.map_cons, List.map_nil, v1, v2, hr]
  exact hk _ _ (hK v' w' h2 h3 h4)
theorem one_int (w : World) (c : Int) : (w.alloc (.cells #[.int .i64 c] 3)).cell? ((⟨w.heap.size, 0, none⟩ : Addr).add 0) = some (.int .i64 c) := by
  rw [WideShapes.add_plain, Nat.zero_add, World.cell?_alloc_new]
  rfl
theorem Du.grow {w0 w w' : World} {p : Nat} {U V S : List Nat} {D : Di} (h : Du w0 w p U D) (m : Mod S w w') (hS : ∀ x ∈ S, x ∈ U) (h0 : ∀ x ∈ S, w0.heap.size ≤ x) (hV : ∀ x ∈ V, x ∈ U ∨ (w.heap.size ≤ x ∧ x < w'.heap.size)) : Du w0 w' p V D := by
  obtain ⟨T, h1, h2, h3⟩ := h
  refine ⟨T, ⟨h1.r.mod m fun x hx hs => h2 x (hS x hs) hx, h1.m.then m fun x hx => Or.inr (h0 x hx), h1.new⟩, fun x hx ht => ?_, fun x hx => ?_⟩
  · rcases hV x hx with hu | ⟨hl, _⟩
    · exact h2 x hu ht
    · have := h1.r.lt x ht; omega
  · rcases hV x hx with hu | ⟨_, hl⟩
    · exact Nat.lt_of_lt_of_le (h3 x hu) m.size
    · exact hl
theorem Ir.own {w : World} {b : Nat} {v : Value} {X : List Int} (h : Ir w b v X) : ∀ g, v.ownBlock = some g → b ≤ g ∧ g < w.heap.size := fun g hg => World.ownsRow.lt h g hg
theorem Ir.nil (w : World) (base : Nat) : Ir w base (.slice none 0 0) [] := ⟨rfl, .inl ⟨rfl, rfl⟩⟩
theorem Ir.keep {w w' : World} {base : Nat} {v : Value} {X : List Int} {U : List Nat} (h : Ir w base v X) (m : Keep U w w') (hU : ∀ g, v.ownBlock = some g → g ∈ U) : Ir w' base v X := row_keep h m hU
/-- The dictionary and two rows of numbers, one of nine and one that grows. -/
structure Ord3 (w1 w : World) (p g : Nat) (v : Value) (D : Di) (Wt Y : List Int) : Prop where
  d : Du w1 w p (g :: v.ownBlock.toList) D
  n : Nine w g Wt
  i : Ir w w1.heap.size v Y
  ne : v.ownBlock ≠ some g
theorem Ord3.far {w1 w w' : World} {p g : Nat} {v : Value} {D : Di} {Wt Y : List Int} (h : Ord3 w1 w p g v D Wt Y) (m : Mod [] w w') : Ord3 w1 w' p g v D Wt Y :=
  ⟨h.d.far m, h.n.keep (Keep.of m) (U := [g]) (by simp), h.i.far m, h.ne⟩
theorem Ord3.grown {w1 w w' : World} {p g : Nat} {v v' : Value} {D : Di} {Wt Y : List Int} {c : Int} (h : Ord3 w1 w p g v D Wt Y) (m : w.grownBy w' v.ownBlock) (hi : Ir w' w1.heap.size v' (Y ++ [c])) (ho : v'.ownBlock = v.ownBlock ∨ v'.ownBlock = some w.heap.size) : Ord3 w1 w' p g v' D Wt (Y ++ [c]) := by
  have mm : Mod v.ownBlock.toList w w' := Mod.of_grown m (by simp)
  refine ⟨h.d.grow mm (fun x hx => by simp [hx]) (fun x hx => (h.i.own x (by simpa using hx)).1) fun x hx => ?_, h.n.keep ⟨_, mm, by
    intro x hx hs
    have e : x = g := by simpa using hx
    subst e
    exact h.ne (by simpa using hs)⟩ (U := [g]) (by simp), hi, ?_⟩
  · rcases List.mem_cons.1 hx with rfl | hx
    · exact Or.inl (by simp)
    · have hx : v'.ownBlock = some x := by simpa using hx
      rcases ho with e | e
      · exact Or.inl (by rw [← e, hx]; simp)
      · exact Or.inr ⟨by rw [e] at hx; injection hx with hx; omega, (hi.own x hx).2⟩
  · rcases ho with e | e
    · rw [e]; exact h.ne
    · rw [e]
      intro e2
      injection e2 with e2
      have := h.n.lt
      omega
theorem Ord3.turn {w1 w w' : World} {p g : Nat} {v : Value} {D D' : Di} {Wt Y : List Int} (h : Ord3 w1 w p g v D Wt Y) (d : Du w1 w' p (g :: v.ownBlock.toList) D') (k : Keep (g :: v.ownBlock.toList) w w') : Ord3 w1 w' p g v D' Wt Y :=
  ⟨d, h.n.keep k (by simp), h.i.keep k fun x hx => by rw [hx]; simp, h.ne⟩
theorem ints_lit (w : World) (c : Int) : IntsAt (w.alloc (.cells #[.int .i64 c] 3)) (some ⟨w.heap.size, 0, none⟩) [c] := fun i hi => by
  have : i = 0 := by simpa using hi
  subst this
  have := one_int w c
  rw [WideShapes.add_plain] at this
  exact ⟨w.heap.size, 0, rfl, this⟩
theorem Nine.ints {w : World} {g : Nat} {Wt : List Int} (h : Nine w g Wt) (h9 : Wt.length = 9) : IntsAt w (some ⟨g, 0, none⟩) Wt := fun i hi => by
  refine ⟨g, 0, rfl, ?_⟩
  rw [Nat.zero_add]
  exact h.cell i (by omega) _ (List.getElem?_eq_getElem hi)
theorem Ir.at {w : World} {base : Nat} {A : Option Addr} {n cap : Nat} {Y : List Int} (h : Ir w base (.slice A n cap) Y) : IntsAt w A Y := by
  obtain ⟨A', c', e, h2, _⟩ := h.opened
  injection e with e1 _ _
  rw [e1]
  exact h2
end Go.Proofs.Ytldnpppbnakcoaa
