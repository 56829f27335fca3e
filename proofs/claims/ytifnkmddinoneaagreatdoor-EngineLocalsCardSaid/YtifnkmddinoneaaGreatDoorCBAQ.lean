/- Layer 15 (engine): an engine as plain lists, and what a step does. Plain. Layer 15: steps, told one by one: what each instruction and word leads to. Plain. No condition. Layer 15: EngineDeep, plain: calls one within the other; the example. Plain. No condition. Layer 15: EngineClean, plain: which frames there are. Plain. No condition. -/
import Derived.Test.YtifnkmddinoneaaGreatDoorCBAN
import Derived.Test.YtifnkmddinoneaaGreatDoorCBAI
import Derived.Test.YtifnkmddinoneaaGreatDoorCBAA
import Derived.Test.YtifnkmddinoneaaGreatDoorCBAP
set_option maxRecDepth 100000
namespace Go.Proofs.YtifnkmddinoneaaGreatDoor
open Go.RowKit
set_option linter.unusedVariables false

/-- A word: its kind, its number, its cell. -/
structure Wd where
  k : Int
  n : Int
  w : Int
structure Es where
  W : List Wd
  D : List (List L10.Xi)
  F : List L14.Fm
  d : Int
  i : Int
  nx : Int
  C : List Int
  μ : Mu
  I : List L8.Sc
  M : Nat
abbrev Sv := Int × Int × Int
def ranS : Sv := (1, 0, 0)
def Es.word (E : Es) (n : Int) : Option Wd := if 1 ≤ n then E.W[(n - 1).toNat]? else none
def Es.code (E : Es) (n : Int) : Option (List L10.Xi) := if 1 ≤ n then E.D[(n - 1).toNat]? else none
def Es.ins (E : Es) : Option L10.Xi := (E.code E.d).bind fun l => if 0 ≤ E.i then l[E.i.toNat]? else none
def seekL (n : Int) (I : List L8.Sc) : List L8.Sc := match I.getLast? with
  | some x => I.dropLast ++ [{ x with i := heldN x.t.length n }]
  | none => I
def thrown (q : L14.Fm) (I : List L8.Sc) : List L8.Sc := if ((I.take (heldN I.length q.b)).length : Int) = q.b then seekL q.x (I.take (heldN I.length q.b)) else I.take (heldN I.length q.b)
def throwE (e : Int) (E : Es) : Sv × Es := match L14.caught E.F with
  | none => ((4, 0, e), { E with F := [], C := [], d := 0, i := 0, nx := 0 })
  | some q => (ranS, { E with F := L14.catchL E.F, C := (putL [e] (cutL (clamp q.a) E.C)).2, d := 0, i := 0, nx := 0, I := thrown q E.I })
def after (p : Int × Es) : Sv × Es := if p.1 = 0 then (ranS, p.2) else throwE p.1 p.2
def pushE (x : Int) (E : Es) : Int × Es := ((putL [x] E.C).1, { E with C := (putL [x] E.C).2 })
def frameE (q : L14.Fm) (E : Es) : Int × Es := (L14.pushE E.F, { E with F := L14.pushL E.F q })
def takingE (n : Nat) (f : List Int → Es → Int × Es) (E : Es) : Int × Es :=
  if E.C.length < n then (-4, E) else
    let p := f (E.C.drop (E.C.length - n)) { E with C := E.C.take (E.C.length - n) }
    if p.1 = 0 then p else (p.1, { p.2 with C := (putL (E.C.drop (E.C.length - n)) p.2.C).2 })
def callE (n : Int) (E : Es) : Int × Es := if (E.code n).isSome then
    if 128 ≤ E.F.length then (-5, E) else (0, { E with F := E.F ++ [⟨1, E.d, E.i, 0, 0, []⟩], d := n, i := 0 })
  else (-9, E)
def doesE (x n : Int) (E : Es) : Int × Es := if (E.code n).isSome then
    if 128 ≤ E.C.length then (-3, E) else if 128 ≤ E.F.length then (-5, E) else (0, { E with C := E.C ++ [x], F := E.F ++ [⟨1, E.d, E.i, 0, 0, []⟩], d := n, i := 0 })
  else (-9, E)
def forwardE (n : Int) (E : Es) : Int × Es := if n = 0 then (-32, E) else if (E.word n).isSome then (0, { E with nx := n }) else (-9, E)
def cellE (E : Es) : Int × Es := match L14.topK 2 E.F with
  | some q => pushE q.x E
  | none => (-6, E)
def indexE (n : Int) (E : Es) : Int × Es := match L14.indexL n E.F with
  | some x => pushE x E
  | none => (-26, E)
def unloopE (E : Es) : Int × Es := if (L14.topK 3 E.F).isSome then (0, { E with F := E.F.dropLast }) else (-26, E)
def popWord (f : Int → Es → Int × Es) (E : Es) : Int × Es := match E.C.getLast? with
  | none => (-4, E)
  | some x => if (E.word x).isSome then f x { E with C := E.C.dropLast } else (-9, { E with C := E.C.dropLast })
def inE (I : List L8.Sc) : Int := match I.getLast? with
  | some x => (x.i : Int)
  | none => 0
def ctlE (n : Int) (E : Es) : Int × Es :=
  if n = 1 then takingE 1 (fun l E => frameE ⟨2, 0, 0, l.headD 0, 0, []⟩ E) E
  else if n = 2 then (let p := cellE E; if p.1 = 0 then (0, { p.2 with F := E.F.dropLast }) else p)
  else if n = 3 then cellE E
  else if n = 4 then indexE 0 E
  else if n = 5 then indexE 1 E
  else if n = 6 then unloopE E
  else if n = 7 then popWord (fun x E => (0, { E with nx := x })) E
  else if n = 8 then popWord (fun x E => if 128 < E.F.length + 2 then (-5, E) else (0, { E with F := E.F ++ [⟨1, E.d, E.i, 0, 0, []⟩, ⟨5, E.C.length, E.I.length, inE E.I, 0, []⟩], d := 0, i := 0, nx := x })) E
  else match E.C.getLast? with
    | none => (-4, E)
    | some x => (x, { E with C := E.C.dropLast })
def execE (r : Int × List Int × Mu) (n : Int) (E : Es) : Sv × Es := match E.word n with
  | none => throwE (-9) E
  | some w => if w.k = 1 then after (r.1, { E with C := r.2.1, μ := r.2.2 })
    else if w.k = 2 then after (ctlE w.n E)
    else if w.k = 3 ∨ w.k = 4 then ((2, w.k, w.n), E)
    else if w.k = 5 then after (callE w.n E)
    else if w.k = 7 then after (doesE w.w w.n E)
    else if w.k = 8 then after (forwardE w.n E)
    else after (pushE w.w E)
def stepF (s : Int) (a : Int) (E : Es) : Int × Es := if (L14.topK 3 E.F).isSome then
    (0, { E with F := L14.stepL s E.F, i := if L14.stepEnd s E.F then E.i else a })
  else (-26, E)
def insE (x : L10.Xi) (E : Es) : Int × Es :=
  if x.op = 1 then pushE x.w E
  else if x.op = 3 then (0, { E with i := x.a })
  else if x.op = 4 then takingE 1 (fun l E => (0, if l.headD 0 = 0 then { E with i := x.a } else E)) E
  else if x.op = 5 then takingE 2 (fun l E => frameE ⟨3, 0, 0, l.getD 1 0, l.headD 0, []⟩ E) E
  else if x.op = 6 then takingE 2 (fun l E => if l.headD 0 = l.getD 1 0 then (0, { E with i := x.a }) else frameE ⟨3, 0, 0, l.getD 1 0, l.headD 0, []⟩ E) E
  else if x.op = 7 then stepF 1 x.a E
  else if x.op = 8 then takingE 1 (fun l E => stepF (l.headD 0) x.a E) E
  else if x.op = 9 then (let p := unloopE E; if p.1 = 0 then (0, { p.2 with i := x.a }) else p)
  else if x.op = 10 then takingE 2 (fun l E => if l.headD 0 = l.getD 1 0 then (0, E) else pushE (l.headD 0) { E with i := x.a }) E
  else if x.op = 11 then takingE 1 (fun _ E => (0, E)) E
  else if x.op = 12 then takingE x.a.toNat (fun l E => frameE ⟨4, 0, 0, 0, 0, l⟩ E) E
  else if x.op = 13 then (match L14.localL x.a E.F with
    | some y => pushE y E
    | none => (-6, E))
  else if x.op = 14 then takingE 1 (fun l E => if (L14.localL x.a E.F).isSome then (0, { E with F := L14.setL x.a (l.headD 0) E.F }) else (-6, E)) E
  else (0, { E with F := L14.popL 4 E.F, d := 0, i := 0 })
def instructE (r : Int × List Int × Mu) (x : L10.Xi) (E : Es) : Sv × Es := if x.op = 2 then execE r x.a E else after (insE x E)
def goToE (d i : Int) (E : Es) : Es := { E with d := d, i := if d = 0 then 0 else i }
def endE (q : L14.Fm) (E : Es) : Sv × Es := if q.k = 1 then (ranS, goToE q.a q.b { E with F := E.F.dropLast })
  else if q.k = 5 then after (let p := pushE 0 E; if p.1 = 0 then (0, { p.2 with F := E.F.dropLast }) else p)
  else throwE (-25) E
def topKind (F : List L14.Fm) : Int := (F.getLast?.map (·.k)).getD 0
def stepE (r : Int × List Int × Mu) (E : Es) : Sv × Es :=
  if E.nx ≠ 0 then execE r E.nx { E with nx := 0 }
  else if topKind E.F = 6 ∨ topKind E.F = 7 then ((3, topKind E.F, 0), E)
  else if E.d ≠ 0 then (match E.ins with
    | some x => instructE r x { E with i := E.i + 1 }
    | none => throwE (-25) E)
  else match E.F.getLast? with
    | some q => endE q E
    | none => ((5, 0, 0), E)
def primW (n : Int) (E : Es) : Option Int := (E.word n).bind fun w => if w.k = 1 then some w.n else none
def primE (E : Es) : Option Int :=
  if E.nx ≠ 0 then primW E.nx E
  else if topKind E.F = 6 ∨ topKind E.F = 7 then none
  else if E.d ≠ 0 then E.ins.bind fun x => if x.op = 2 then primW x.a E else none
  else none
end Go.Proofs.YtifnkmddinoneaaGreatDoor
namespace Go.Proofs.YtifnkmddinoneaaGreatDoor
open Go.RowKit
set_option linter.unusedVariables false
inductive OpS : Int → List Int → List Int → Prop
  | dec (R : List Int) (x : Int) : R.length + 1 ≤ 128 → OpS 5 (R ++ [x]) (R ++ [wrap64 (x - 1)])
  | add (R : List Int) (x y : Int) : R.length + 2 ≤ 128 → OpS 11 (R ++ [x, y]) (R ++ [wrap64 (x + y)])
  | eq (R : List Int) (x y : Int) : R.length + 2 ≤ 128 → OpS 21 (R ++ [x, y]) (R ++ [if x = y then -1 else 0])
  | dup (R : List Int) (x : Int) : R.length + 2 ≤ 128 → OpS 28 (R ++ [x]) (R ++ [x, x])
def Nxt (E : Es) (s : Sv) (E' : Es) : Prop := ∃ r0 : Int × List Int × Mu, (∀ n, primE E = some n → ∃ C', OpS n E.C C' ∧ r0 = (0, C', E.μ)) ∧ ∀ r, (primE E ≠ none → r = r0) → stepE r E = (s, E')
def Xec (n : Int) (E : Es) (s : Sv) (E' : Es) : Prop := ∃ r0 : Int × List Int × Mu, (∀ m, primW n E = some m → ∃ C', OpS m E.C C' ∧ r0 = (0, C', E.μ)) ∧ ∀ r, (primW n E ≠ none → r = r0) → execE r n E = (s, E')
def Pth : Nat → Es → Es → Prop
  | 0, E, E' => E = E'
  | k + 1, E, E' => ∃ E1, Nxt E ranS E1 ∧ Pth k E1 E'
theorem Pth.trans : ∀ {a b : Nat} {E E1 E2 : Es}, Pth a E E1 → Pth b E1 E2 → Pth (a + b) E E2
  | 0, b, E, E1, E2, h, k => by cases h; rw [Nat.zero_add]; exact k
  | a + 1, b, E, E1, E2, ⟨E3, h1, h2⟩, k => by rw [Nat.add_right_comm]; exact ⟨E3, h1, h2.trans k⟩
theorem Nxt.pth {E E' : Es} (h : Nxt E ranS E') : Pth 1 E E' := ⟨E', h, rfl⟩
theorem Pth.snoc {a : Nat} {E E1 E2 : Es} (h : Pth a E E1) (k : Nxt E1 ranS E2) : Pth (a + 1) E E2 := h.trans k.pth
theorem Pth.cons {a : Nat} {E E1 E2 : Es} (k : Nxt E ranS E1) (h : Pth a E1 E2) : Pth (a + 1) E E2 := ⟨E1, k, h⟩
theorem Pth.cast {a b : Nat} {E E1 E2 : Es} (h : Pth a E E1) (e : a = b) (e2 : E1 = E2) : Pth b E E2 := e ▸ e2 ▸ h
def NoW (F : List L14.Fm) : Prop := topKind F ≠ 6 ∧ topKind F ≠ 7
theorem topKind_app (F : List L14.Fm) (q : L14.Fm) : topKind (F ++ [q]) = q.k := by simp [topKind]
theorem NoW.app (F : List L14.Fm) (q : L14.Fm) (h : q.k ≠ 6 ∧ q.k ≠ 7) : NoW (F ++ [q]) := by unfold NoW; rw [topKind_app]; exact h
def InsD (D : List (List L10.Xi)) (d i : Int) (x : L10.Xi) : Prop := 1 ≤ d ∧ 0 ≤ i ∧ ∃ l, D[(d - 1).toNat]? = some l ∧ l[i.toNat]? = some x
def WdN (W : List Wd) (n : Int) (x : Wd) : Prop := 1 ≤ n ∧ W[(n - 1).toNat]? = some x
section
variable {W : List Wd} {D : List (List L10.Xi)} {F : List L14.Fm} {d i nx : Int} {C : List Int} {μ : Mu} {I : List L8.Sc} {M : Nat}
theorem InsD.at {x : L10.Xi} (h : InsD D d i x) : (⟨W, D, F, d, i, nx, C, μ, I, M⟩ : Es).ins = some x := by
  obtain ⟨h1, h2, l, h3, h4⟩ := h
  unfold Es.ins Es.code
  dsimp only
  rw [if_pos h1, h3]
  simp [h2, h4]
theorem WdN.at {n : Int} {x : Wd} (h : WdN W n x) : (⟨W, D, F, d, i, nx, C, μ, I, M⟩ : Es).word n = some x := by
  unfold Es.word
  dsimp only
  rw [if_pos h.1, h.2]
theorem nxt_ins {x : L10.Xi} {s : Sv} {E' : Es} (h : InsD D d i x) (hF : NoW F) (h2 : x.op ≠ 2) (ho : after (insE x ⟨W, D, F, d, i + 1, 0, C, μ, I, M⟩) = (s, E')) : Nxt ⟨W, D, F, d, i, 0, C, μ, I, M⟩ s E' := by
  have hd : d ≠ 0 := by have := h.1; omega
  refine ⟨(0, [], μ), fun n hn => ?_, fun r _ => ?_⟩
  · unfold primE at hn
    rw [if_neg (by simp), if_neg (by dsimp only; have := hF; unfold NoW at this; omega), if_pos hd, h.at] at hn
    simp [h2] at hn
  · unfold stepE
    rw [if_neg (by simp), if_neg (by dsimp only; have := hF; unfold NoW at this; omega), if_pos hd, h.at]
    dsimp only
    unfold instructE
    rw [if_neg h2]
    exact ho
theorem nxt_next {s : Sv} {E' : Es} (hn : nx ≠ 0) (hx : Xec nx ⟨W, D, F, d, i, 0, C, μ, I, M⟩ s E') : Nxt ⟨W, D, F, d, i, nx, C, μ, I, M⟩ s E' := by
  obtain ⟨r0, h1, h2⟩ := hx
  have e1 : primE ⟨W, D, F, d, i, nx, C, μ, I, M⟩ = primW nx ⟨W, D, F, d, i, 0, C, μ, I, M⟩ := by
    unfold primE
    rw [if_pos hn]
    rfl
  refine ⟨r0, fun n hn => h1 n (by rw [← e1]; exact hn), fun r hr => ?_⟩
  unfold stepE
  rw [if_pos hn]
  exact h2 r fun hne => hr (by rw [e1]; exact hne)
theorem nxt_end {q : L14.Fm} {s : Sv} {E' : Es} (hk : q.k ≠ 6 ∧ q.k ≠ 7) (ho : endE q ⟨W, D, F ++ [q], 0, i, 0, C, μ, I, M⟩ = (s, E')) : Nxt ⟨W, D, F ++ [q], 0, i, 0, C, μ, I, M⟩ s E' := by
  have hF := NoW.app F q hk
  refine ⟨(0, [], μ), fun n hn => ?_, fun r _ => ?_⟩
  · unfold primE at hn
    rw [if_neg (by simp), if_neg (by dsimp only; have := hF; unfold NoW at this; omega), if_neg (by simp)] at hn
    cases hn
  · unfold stepE
    rw [if_neg (by simp), if_neg (by dsimp only; have := hF; unfold NoW at this; omega), if_neg (by simp)]
    simpa using ho
theorem nxt_return {a b x y : Int} {l : List Int} : Nxt ⟨W, D, F ++ [⟨1, a, b, x, y, l⟩], 0, i, 0, C, μ, I, M⟩ ranS ⟨W, D, F, a, if a = 0 then 0 else b, 0, C, μ, I, M⟩ := by
  refine nxt_end (by simp) ?_
  unfold endE goToE
  simp
theorem nxt_caught {a b x y : Int} {l : List Int} (hC : C.length < 128) : Nxt ⟨W, D, F ++ [⟨5, a, b, x, y, l⟩], 0, i, 0, C, μ, I, M⟩ ranS ⟨W, D, F, 0, i, 0, C ++ [0], μ, I, M⟩ := by
  refine nxt_end (by simp) ?_
  unfold endE pushE after
  rw [if_neg (by simp), if_pos rfl]
  have : putL [0] C = (0, C ++ [0]) := by unfold putL; rw [if_pos (by simp; omega)]
  simp [this]
theorem nxt_halt : Nxt ⟨W, D, [], 0, i, 0, C, μ, I, M⟩ (5, 0, 0) ⟨W, D, [], 0, i, 0, C, μ, I, M⟩ := by
  refine ⟨(0, [], μ), fun n hn => ?_, fun r _ => ?_⟩
  · simp [primE, topKind] at hn
  · simp [stepE, topKind]
theorem putL_one {x : Int} (hC : C.length < 128) : putL [x] C = (0, C ++ [x]) := by unfold putL; rw [if_pos (by simp; omega)]
theorem after_ok {E : Es} : after (0, E) = (ranS, E) := by unfold after; rw [if_pos rfl]
theorem i_lit {a w : Int} (h : InsD D d i ⟨1, a, w⟩) (hF : NoW F) (hC : C.length < 128) : Nxt ⟨W, D, F, d, i, 0, C, μ, I, M⟩ ranS ⟨W, D, F, d, i + 1, 0, C ++ [w], μ, I, M⟩ := by
  refine nxt_ins h hF (by simp) ?_
  unfold insE pushE
  rw [if_pos rfl]
  dsimp only
  rw [putL_one hC]
  exact after_ok
theorem i_jump {a w : Int} (h : InsD D d i ⟨3, a, w⟩) (hF : NoW F) : Nxt ⟨W, D, F, d, i, 0, C, μ, I, M⟩ ranS ⟨W, D, F, d, a, 0, C, μ, I, M⟩ := by
  refine nxt_ins h hF (by simp) ?_
  unfold insE
  rw [if_neg (by simp), if_pos rfl]
  exact after_ok
theorem taking_ok {n : Nat} {f : List Int → Es → Int × Es} {X : List Int} {E' : Es} {e : Int} (hX : X.length = n) (he : e = 0) (hf : f X ⟨W, D, F, d, i, nx, C, μ, I, M⟩ = (e, E')) : takingE n f ⟨W, D, F, d, i, nx, C ++ X, μ, I, M⟩ = (0, E') := by
  unfold takingE
  have e1 : ¬ (C ++ X).length < n := by simp; omega
  have e2 : (C ++ X).length - n = C.length := by simp; omega
  dsimp only
  rw [if_neg e1, e2, List.drop_left, List.take_left, hf, he]
  simp
theorem i_zero {a w x : Int} (h : InsD D d i ⟨4, a, w⟩) (hF : NoW F) : Nxt ⟨W, D, F, d, i, 0, C ++ [x], μ, I, M⟩ ranS ⟨W, D, F, d, if x = 0 then a else i + 1, 0, C, μ, I, M⟩ := by
  refine nxt_ins h hF (by simp) ?_
  unfold insE
  rw [if_neg (by simp), if_neg (by simp), if_pos rfl]
  rw [taking_ok (n := 1) (X := [x]) rfl rfl rfl]
  rw [after_ok]
  show (ranS, if x = 0 then _ else _) = _
  by_cases hx : x = 0
  · rw [if_pos hx, if_pos hx]
  · rw [if_neg hx, if_neg hx]
theorem i_of {a w x y : Int} (h : InsD D d i ⟨10, a, w⟩) (hF : NoW F) (hl : C.length < 128) : Nxt ⟨W, D, F, d, i, 0, C ++ [x, y], μ, I, M⟩ ranS (if x = y then ⟨W, D, F, d, i + 1, 0, C, μ, I, M⟩ else ⟨W, D, F, d, a, 0, C ++ [x], μ, I, M⟩) := by
  refine nxt_ins h hF (by simp) ?_
  unfold insE
  rw [if_neg (by simp), if_neg (by simp), if_neg (by simp), if_neg (by simp), if_neg (by simp), if_neg (by simp), if_neg (by simp), if_neg (by simp), if_pos rfl]
  by_cases hxy : x = y
  · rw [if_pos hxy, taking_ok (n := 2) (X := [x, y]) (E' := ⟨W, D, F, d, i + 1, 0, C, μ, I, M⟩) (e := 0) rfl rfl (if_pos hxy)]
    exact after_ok
  · rw [if_neg hxy, taking_ok (n := 2) (X := [x, y]) (E' := ⟨W, D, F, d, a, 0, C ++ [x], μ, I, M⟩) (e := 0) rfl rfl ((if_neg hxy).trans (by unfold pushE; dsimp only [List.headD]; rw [putL_one hl]))]
    exact after_ok
theorem i_drop {a w x : Int} (h : InsD D d i ⟨11, a, w⟩) (hF : NoW F) : Nxt ⟨W, D, F, d, i, 0, C ++ [x], μ, I, M⟩ ranS ⟨W, D, F, d, i + 1, 0, C, μ, I, M⟩ := by
  refine nxt_ins h hF (by simp) ?_
  unfold insE
  rw [if_neg (by simp), if_neg (by simp), if_neg (by simp), if_neg (by simp), if_neg (by simp), if_neg (by simp), if_neg (by simp), if_neg (by simp), if_neg (by simp), if_pos rfl]
  rw [taking_ok (n := 1) (X := [x]) rfl rfl rfl]
  exact after_ok
theorem i_exit {a w : Int} (h : InsD D d i ⟨15, a, w⟩) (hF : NoW F) : Nxt ⟨W, D, F, d, i, 0, C, μ, I, M⟩ ranS ⟨W, D, L14.popL 4 F, 0, 0, 0, C, μ, I, M⟩ := by
  refine nxt_ins h hF (by simp) ?_
  unfold insE
  rw [if_neg (by simp), if_neg (by simp), if_neg (by simp), if_neg (by simp), if_neg (by simp), if_neg (by simp), if_neg (by simp), if_neg (by simp), if_neg (by simp), if_neg (by simp), if_neg (by simp), if_neg (by simp), if_neg (by simp)]
  exact after_ok
end
section
variable {W : List Wd} {D : List (List L10.Xi)} {F : List L14.Fm} {d i nx : Int} {C : List Int} {μ : Mu} {I : List L8.Sc} {M : Nat}
theorem primW_of {n : Int} {x : Wd} (h : WdN W n x) : primW n ⟨W, D, F, d, i, nx, C, μ, I, M⟩ = if x.k = 1 then some x.n else none := by
  unfold primW
  rw [h.at]
  rfl
theorem xec_not {n : Int} {x : Wd} {s : Sv} {E' : Es} (h : WdN W n x) (hk : x.k ≠ 1) (he : ∀ r, execE r n ⟨W, D, F, d, i, nx, C, μ, I, M⟩ = (s, E')) : Xec n ⟨W, D, F, d, i, nx, C, μ, I, M⟩ s E' := by
  refine ⟨(0, C, μ), fun m hm => ?_, fun r _ => he r⟩
  rw [primW_of h, if_neg hk] at hm
  cases hm
theorem code_of {k : Int} {l : List L10.Xi} (h1 : 1 ≤ k) (hl : D[(k - 1).toNat]? = some l) : (⟨W, D, F, d, i, nx, C, μ, I, M⟩ : Es).code k = some l := by
  unfold Es.code
  dsimp only
  rw [if_pos h1, hl]
theorem xec_colon {n k u : Int} {l : List L10.Xi} (h : WdN W n ⟨5, k, u⟩) (h1 : 1 ≤ k) (hl : D[(k - 1).toNat]? = some l) (hF : F.length < 128) : Xec n ⟨W, D, F, d, i, nx, C, μ, I, M⟩ ranS ⟨W, D, F ++ [⟨1, d, i, 0, 0, []⟩], k, 0, nx, C, μ, I, M⟩ := by
  refine xec_not h (by simp) fun r => ?_
  unfold execE
  rw [h.at]
  dsimp only
  rw [if_neg (by decide), if_neg (by decide), if_neg (by decide), if_pos rfl]
  unfold callE
  rw [code_of h1 hl]
  simp only [Option.isSome_some, if_true]
  rw [if_neg (by omega)]
  exact after_ok
end
end Go.Proofs.YtifnkmddinoneaaGreatDoor
namespace Go.Proofs.YtifnkmddinoneaaGreatDoor
open Go.RowKit
set_option linter.unusedVariables false
theorem insD1 {l : List L10.Xi} {D : List (List L10.Xi)} {i : Int} {x : L10.Xi} (h0 : 0 ≤ i) (h : l[i.toNat]? = some x) : InsD (l :: D) 1 i x := ⟨by decide, h0, l, rfl, h⟩
section
variable {W : List Wd} {μ : Mu} {M : Nat} {F : List L14.Fm}
def frC : L14.Fm := ⟨1, 0, 0, 0, 0, []⟩
end
theorem shown_path {W : List Wd} {μ : Mu} {M : Nat} (h : WdN W 1 ⟨5, 1, 0⟩) : Pth 4 ⟨W, [[⟨1, 0, 5⟩, ⟨15, 0, 0⟩]], [], 0, 0, 1, [], μ, [], M⟩ ⟨W, [[⟨1, 0, 5⟩, ⟨15, 0, 0⟩]], [], 0, 0, 0, [5], μ, [], M⟩ := by
  have hF : NoW [frC] := by simp [NoW, topKind, frC]
  refine Pth.cons (nxt_next (by decide) (xec_colon (F := []) h (by decide) rfl (by decide))) ?_
  refine Pth.cons (i_lit (a := 0) (w := 5) (F := [frC]) (C := []) (insD1 (by decide) rfl) hF (by decide)) ?_
  refine Pth.cons (i_exit (a := 0) (w := 0) (F := [frC]) (insD1 (by decide) rfl) hF) ?_
  exact (nxt_return (F := [])).pth
end Go.Proofs.YtifnkmddinoneaaGreatDoor
namespace Go.Proofs.YtifnkmddinoneaaGreatDoor
open Go.RowKit
set_option linter.unusedVariables false
theorem topK_some {k : Int} {F : List L14.Fm} (h : (L14.topK k F).isSome = true) : ∃ A q, F = A ++ [q] ∧ q.k = k := by
  rcases L14.snoc_cases F with rfl | ⟨A, q, rfl⟩
  · simp [L14.topK] at h
  · refine ⟨A, q, rfl, ?_⟩
    rw [L14.topK_snoc] at h
    split at h
    · assumption
    · simp at h
end Go.Proofs.YtifnkmddinoneaaGreatDoor
