/- Layer 11: parts that are open, a definition that is being made, and what each part does to both. Plain: no program. No condition. -/
import Derived.Test.YtnclfopdgilgaaaIX
namespace Go.Proofs.Ytnclfopdgilgaaa
set_option linter.unusedVariables false

/-- An open part: what it is (1 gap, 2 goal, 3 loop, 4 choice, 5 branch), the index at which it was opened, its gaps. -/
structure Pk where
  k : Nat
  s : Nat
  g : List Nat
deriving DecidableEq, Inhabited
/-- Instructions, and open parts, the top one last. -/
structure Bd where
  L : List Xi
  P : List Pk
/-- The instruction i goes to a. -/
def setA : List Xi → Nat → Nat → List Xi
  | [], _, _ => []
  | x :: r, 0, a => { x with a := (a : Int) } :: r
  | x :: r, i + 1, a => x :: setA r i a
theorem setA_len (L : List Xi) (i a : Nat) : (setA L i a).length = L.length := by
  induction L generalizing i with
  | nil => rfl
  | cons x r ih => cases i <;> simp [setA, ih]
theorem setA_get (L : List Xi) (i a j : Nat) : (setA L i a)[j]? = if j = i then L[j]?.map (fun x => { x with a := (a : Int) }) else L[j]? := by
  induction L generalizing i j with
  | nil => simp [setA]
  | cons x r ih =>
    cases i with
    | zero => cases j <;> simp [setA]
    | succ i => cases j <;> simp [setA, ih]
theorem setA_mem (L : List Xi) (i a : Nat) : ∀ x ∈ setA L i a, ∃ y ∈ L, x = y ∨ x = { y with a := (a : Int) } := by
  induction L generalizing i with
  | nil => simp [setA]
  | cons y r ih =>
    intro x hx
    cases i with
    | zero =>
      rcases List.mem_cons.1 hx with rfl | hx
      · exact ⟨y, by simp, Or.inr rfl⟩
      · exact ⟨x, by simp [hx], Or.inl rfl⟩
    | succ i =>
      rcases List.mem_cons.1 hx with rfl | hx
      · exact ⟨x, by simp, Or.inl rfl⟩
      · obtain ⟨z, hz, h⟩ := ih i x hx
        exact ⟨z, by simp [hz], h⟩
theorem flats_setA (L : List Xi) (i a : Nat) : flatsX (setA L i a) = (flatsX L).set (i * 3 + 1) (.int .i64 (a : Int)) := by
  induction L generalizing i with
  | nil => simp [setA, flatsX]
  | cons x r ih =>
    have e : ∀ (y : Xi) (l : List Xi), flatsX (y :: l) = flatX y ++ flatsX l := fun y l => by simp [flatsX]
    cases i with
    | zero => simp [setA, e, flatX]
    | succ i =>
      rw [setA, e, e, ih, List.set_append_right _ _ (by simp [flatX]; omega)]
      congr 2
      simp [flatX]; omega
/-- All these go to a. -/
def closeL (a : Nat) (g : List Nat) (L : List Xi) : List Xi := g.foldl (fun L i => setA L i a) L
theorem closeL_len (a : Nat) (g : List Nat) (L : List Xi) : (closeL a g L).length = L.length := by
  induction g generalizing L with
  | nil => rfl
  | cons i r ih => show (closeL a r (setA L i a)).length = _; rw [ih, setA_len]
theorem closeL_snoc (a : Nat) (g : List Nat) (i : Nat) (L : List Xi) : closeL a (g ++ [i]) L = setA (closeL a g L) i a := by simp [closeL]
theorem closeL_get (a : Nat) (g : List Nat) (L : List Xi) (j : Nat) : (closeL a g L)[j]? = if j ∈ g then L[j]?.map (fun x => { x with a := (a : Int) }) else L[j]? := by
  induction g generalizing L with
  | nil => rfl
  | cons i r ih =>
    show (closeL a r (setA L i a))[j]? = _
    rw [ih, setA_get]
    by_cases h1 : j ∈ r <;> by_cases h2 : j = i <;> simp [h1, h2, Option.map_map, Function.comp_def]
theorem closeL_well (a : Nat) (ha : a ≤ 1000000) (g : List Nat) (L : List Xi) (h : ∀ x ∈ L, WellX x) : ∀ x ∈ closeL a g L, WellX x := by
  induction g generalizing L with
  | nil => exact h
  | cons i r ih =>
    refine ih (setA L i a) fun x hx => ?_
    obtain ⟨y, hy, e⟩ := setA_mem L i a x hx
    rcases e with rfl | rfl
    · exact h x hy
    · exact ⟨(h y hy).op, by unfold I64; simp; omega, (h y hy).w⟩
theorem setA_well (L : List Xi) (i a : Nat) (ha : a ≤ 1000000) (h : ∀ x ∈ L, WellX x) : ∀ x ∈ setA L i a, WellX x := closeL_well a ha [i] L h
/-- What a row of the table asks, lays, and whether it opens a part. -/
structure Rw where
  needs : List Nat
  within : Nat
  lays : Nat
  opens : Bool
  act : Nat
/-- The rows. -/
def rowN (n : Nat) : Option Rw :=
  [none, some ⟨[], 0, 4, true, 0⟩, some ⟨[1], 0, 3, false, 1⟩, some ⟨[1], 0, 0, false, 2⟩, some ⟨[], 0, 0, true, 3⟩, some ⟨[2], 0, 4, true, 4⟩, some ⟨[1, 2], 0, 3, false, 5⟩,
   some ⟨[2], 0, 4, false, 6⟩, some ⟨[2], 0, 3, false, 6⟩, some ⟨[], 0, 5, true, 7⟩, some ⟨[], 0, 6, true, 8⟩, some ⟨[3], 0, 7, false, 6⟩, some ⟨[3], 0, 8, false, 6⟩,
   some ⟨[], 3, 9, false, 9⟩, some ⟨[], 0, 0, true, 10⟩, some ⟨[4], 0, 10, true, 11⟩, some ⟨[4, 5], 0, 3, false, 12⟩, some ⟨[4], 0, 11, false, 2⟩].getD n none
def rowI (n : Int) : Option Rw := if 0 ≤ n then rowN n.toNat else none
/-- The top part. -/
def topB (B : Bd) : Pk := B.P.getLastD ⟨0, 0, []⟩
def openB (k : Nat) (g : List Nat) (B : Bd) : Bd := ⟨B.L, B.P ++ [⟨k, B.L.length, g⟩]⟩
def gapB (B : Bd) : Bd := openB 1 [B.L.length - 1] B
def closeB (B : Bd) : Bd := ⟨closeL B.L.length (topB B).g B.L, B.P.dropLast⟩
def backB (B : Bd) : Bd := closeB ⟨setA B.L (B.L.length - 1) (topB B).s, B.P⟩
def belowB (B : Bd) : Bd := ⟨B.L, B.P.dropLast ++ [⟨1, B.L.length, [B.L.length - 1]⟩, topB B]⟩
/-- A gap more, of the part j. -/
def moreG (i : Nat) : List Pk → Nat → List Pk
  | [], _ => []
  | q :: r, 0 => { q with g := q.g ++ [i] } :: r
  | q :: r, j + 1 => q :: moreG i r j
/-- The topmost part of a kind: its index; -1: there is none. -/
def topmost (k : Nat) (P : List Pk) : Int := (P.zipIdx.foldl (fun b q => if q.1.k = k then (q.2 : Int) else b) (-1))
def leaveB (B : Bd) : Bd := ⟨B.L, moreG (B.L.length - 1) B.P (topmost 3 B.P).toNat⟩
def branchB (B : Bd) : Bd := let C := closeB B; ⟨C.L, moreG (C.L.length - 1) C.P (C.P.length - 1)⟩
def actB (a : Nat) (B : Bd) : Bd :=
  if a = 0 then gapB B else if a = 1 then gapB (closeB B) else if a = 2 then closeB B else if a = 3 then openB 2 [] B else if a = 4 then belowB B else if a = 5 then closeB (backB B)
  else if a = 6 then backB B else if a = 7 then openB 3 [] B else if a = 8 then openB 3 [B.L.length - 1] B else if a = 9 then leaveB B else if a = 10 then openB 4 [] B
  else if a = 11 then openB 5 [B.L.length - 1] B else branchB B
def layB (x : Xi) (B : Bd) : Bd := ⟨B.L ++ [x], B.P⟩
/-- The kinds of the parts end so. -/
def endsB (needs : List Nat) (P : List Pk) : Bool := decide (needs <:+ P.map Pk.k)
def fitsB (r : Rw) (P : List Pk) : Bool := endsB r.needs P && (decide (r.within = 0) || decide (0 ≤ topmost r.within P))
def roomB (r : Rw) (B : Bd) : Bool := (decide (r.lays = 0) || decide (B.L.length < 499)) && (!r.opens || decide (B.P.length < 32))
/-- What a part answers, and what is then. -/
def doB (n : Int) (B : Bd) : Int × Bd :=
  match rowI n with
  | none => (1, B)
  | some r => if fitsB r B.P then (if roomB r B then (0, actB r.act (if r.lays = 0 then B else layB ⟨r.lays, 0, 0⟩ B)) else (-8, B)) else (-22, B)
def putB (x : Xi) (B : Bd) : Int × Bd := if B.L.length < 499 then (0, layB x B) else (-8, B)
/-- What is so of a part. -/
structure OkP (n : Nat) (q : Pk) : Prop where
  s : q.s ≤ n
  many : q.g.length ≤ n
  lt : ∀ i ∈ q.g, i < n
  one : q.k = 1 ∨ q.k = 5 → ∃ i, q.g = [i]
  none : q.k = 2 → q.g = []
  kind : 1 ≤ q.k ∧ q.k ≤ 5
structure OkB (B : Bd) : Prop where
  len : B.L.length ≤ 499
  dep : B.P.length ≤ 32
  well : ∀ x ∈ B.L, WellX x
  part : ∀ q ∈ B.P, OkP B.L.length q
theorem OkP.up {n m : Nat} {q : Pk} (h : OkP n q) (hm : n ≤ m) : OkP m q := ⟨by have := h.s; omega, by have := h.many; omega, fun i hi => by have := h.lt i hi; omega, h.one, h.none, h.kind⟩
theorem top_snoc (L : List Xi) (C : List Pk) (q : Pk) : topB ⟨L, C ++ [q]⟩ = q := by simp [topB]
theorem close_snoc (L : List Xi) (C : List Pk) (q : Pk) : closeB ⟨L, C ++ [q]⟩ = ⟨closeL L.length q.g L, C⟩ := by simp [closeB, top_snoc]
theorem back_snoc (L : List Xi) (C : List Pk) (q : Pk) : backB ⟨L, C ++ [q]⟩ = ⟨closeL L.length q.g (setA L (L.length - 1) q.s), C⟩ := by
  simp only [backB, top_snoc, close_snoc, setA_len]
theorem below_snoc (L : List Xi) (C : List Pk) (q : Pk) : belowB ⟨L, C ++ [q]⟩ = ⟨L, C ++ [⟨1, L.length, [L.length - 1]⟩, q]⟩ := by simp [belowB, top_snoc]
theorem more_len (i : Nat) (P : List Pk) (j : Nat) : (moreG i P j).length = P.length := by
  induction P generalizing j with
  | nil => rfl
  | cons q r ih => cases j <;> simp [moreG, ih]
theorem more_snoc (i : Nat) (C : List Pk) (q : Pk) : moreG i (C ++ [q]) C.length = C ++ [{ q with g := q.g ++ [i] }] := by
  induction C with
  | nil => rfl
  | cons p r ih => simp [moreG, ih]
theorem more_at (i : Nat) (C : List Pk) (q : Pk) (D : List Pk) : moreG i (C ++ q :: D) C.length = C ++ { q with g := q.g ++ [i] } :: D := by
  induction C with
  | nil => rfl
  | cons p r ih => simp [moreG, ih]
theorem topmost_snoc (k : Nat) (C : List Pk) (q : Pk) : topmost k (C ++ [q]) = if q.k = k then (C.length : Int) else topmost k C := by
  unfold topmost
  rw [List.zipIdx_append, List.foldl_append]
  simp
theorem snocRec {α : Type} {motive : List α → Prop} (nil : motive []) (snoc : ∀ C q, motive C → motive (C ++ [q])) (l : List α) : motive l := by
  have h : ∀ n (l : List α), l.length = n → motive l := fun n => by
    induction n with
    | zero => intro l h; obtain rfl := List.eq_nil_of_length_eq_zero h; exact nil
    | succ n ih =>
      intro l h
      rcases List.eq_nil_or_concat l with rfl | ⟨C, q, rfl⟩
      · simp at h
      · rw [List.concat_eq_append] at h ⊢
        exact snoc C q (ih C (by simpa using h))
  exact h _ l rfl
theorem topmost_bd (k : Nat) (P : List Pk) : -1 ≤ topmost k P ∧ topmost k P < P.length := by
  induction P using snocRec with
  | nil => simp [topmost]
  | snoc C q ih =>
    rw [topmost_snoc]
    split <;> simp <;> omega
theorem topmost_at {k : Nat} {P : List Pk} {j : Nat} (h : topmost k P = j) : ∃ C q D, P = C ++ q :: D ∧ C.length = j ∧ q.k = k ∧ ∀ d ∈ D, d.k ≠ k := by
  induction P using snocRec with
  | nil => simp [topmost] at h
  | snoc C q ih =>
    rw [topmost_snoc] at h
    split at h
    · rename_i e
      exact ⟨C, q, [], rfl, by omega, e, by simp⟩
    · rename_i e
      obtain ⟨C', q', D, rfl, h1, h2, h3⟩ := ih h
      refine ⟨C', q', D ++ [q], by simp, h1, h2, fun d hd => ?_⟩
      rcases List.mem_append.1 hd with hd | hd
      · exact h3 d hd
      · rw [List.mem_singleton.1 hd]; exact e
theorem ends_one {k : Nat} {P : List Pk} (h : endsB [k] P = true) : ∃ C q, P = C ++ [q] ∧ q.k = k := by
  obtain ⟨t, ht⟩ := of_decide_eq_true h
  rcases List.eq_nil_or_concat P with rfl | ⟨C, q, rfl⟩
  · simp at ht
  · refine ⟨C, q, by simp, ?_⟩
    rw [List.concat_eq_append, List.map_append] at ht
    have := (List.append_inj' ht rfl).2
    simpa using this.symm
theorem ends_two {k l : Nat} {P : List Pk} (h : endsB [k, l] P = true) : ∃ C p q, P = C ++ [p, q] ∧ p.k = k ∧ q.k = l := by
  obtain ⟨t, ht⟩ := of_decide_eq_true h
  rcases List.eq_nil_or_concat P with rfl | ⟨C, q, rfl⟩
  · simp at ht
  · rw [List.concat_eq_append, List.map_append] at ht
    have h1 : t ++ [k] ++ [l] = C.map Pk.k ++ [q].map Pk.k := by simpa using ht
    obtain ⟨h2, h3⟩ := List.append_inj' h1 rfl
    rcases List.eq_nil_or_concat C with rfl | ⟨D, p, rfl⟩
    · simp at h2
    · rw [List.concat_eq_append, List.map_append] at h2
      have h4 := (List.append_inj' h2 rfl).2
      exact ⟨D, p, q, by simp, by simpa using h4.symm, by simpa using h3.symm⟩
end Go.Proofs.Ytnclfopdgilgaaa
