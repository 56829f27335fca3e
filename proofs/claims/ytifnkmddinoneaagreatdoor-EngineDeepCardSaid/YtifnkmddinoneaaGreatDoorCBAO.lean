/- Layer 8: an input among the call's own blocks: a block of a slice and a number, a row of sources. Plain words on worlds and lists. No condition. Layer 14: frames among the call's own blocks: a block of one slice, a row of frames, a row of locals for each. Plain words on worlds. No condition. Layer 14: slices.Clone of cells; a frame copied, by the program and by the document. Condition: the locals lie where the slice tells, 1000000 at most. Layer 12: the words of the table as plain lists, and what a text is split into. No Go text is spoken of but for wordL. Plain arithmetic on pairs of cells as integers modulo 2 to the 128. No Go text is spoken of. What the comparison of two pairs as whole structs comes to. No condition. -/
import Derived.Test.YtifnkmddinoneaaGreatDoorCBAI
import Derived.Laws.OwnMore
import Derived.Test.YtifnkmddinoneaaGreatDoorCBAA
set_option maxRecDepth 100000
namespace Go.Proofs.YtifnkmddinoneaaGreatDoor.L8
open Go.RowKit
set_option linter.unusedVariables false
set_option maxRecDepth 100000

abbrev Pt (p : Nat) : Value := .pointer (some ⟨p, 0, none⟩)
structure Sc where
  t : List UInt8
  i : Nat
  n : Nat
def flat (x : Sc) : List Value := [.string (str x.t), .int .i64 (x.i : Int), .int .i64 (x.n : Int)]
def flats (L : List Sc) : List Value := L.flatMap flat
theorem flats_len (L : List Sc) : (flats L).length = L.length * 3 := by
  induction L with
  | nil => rfl
  | cons x r ih => simp only [flats, List.flatMap_cons, List.length_append] at ih ⊢; rw [ih]; simp [flat]; omega
theorem flats_app (A B : List Sc) : flats (A ++ B) = flats A ++ flats B := by simp [flats]
theorem flats_one (x : Sc) : flats [x] = flat x := by simp [flats]
theorem flats_get (B : List Sc) (x : Sc) (C : List Sc) (k : Nat) (hk : k < 3) : (flats (B ++ x :: C))[B.length * 3 + k]? = (flat x)[k]? := by
  have e : flats (B ++ x :: C) = flats B ++ (flat x ++ flats C) := by simp [flats]
  rw [e, List.getElem?_append_right (by rw [flats_len]; omega), flats_len, Nat.add_sub_cancel_left, List.getElem?_append_left (by simp [flat]; omega)]
theorem flats_set (B : List Sc) (x : Sc) (j : Nat) : (flats (B ++ [x])).set (B.length * 3 + 1) (.int .i64 (j : Int)) = flats (B ++ [{ x with i := j }]) := by
  rw [flats_app, flats_app, List.set_append_right _ _ (by rw [flats_len]; omega), flats_len, Nat.add_sub_cancel_left, flats_one, flats_one]
  rfl
theorem flats_take (L : List Sc) (n : Nat) : (flats L).take (n * 3) = flats (L.take n) := by
  induction L generalizing n with
  | nil => simp [flats]
  | cons x r ih =>
    cases n with
    | zero => simp [flats]
    | succ n =>
      have e : flats (x :: r) = flat x ++ flats r := by simp [flats]
      have e2 : flats (x :: r.take n) = flat x ++ flats (r.take n) := by simp [flats]
      rw [e, List.take_succ_cons, e2, ← ih, List.take_append]
      have h3 : (flat x).length = 3 := rfl
      rw [h3, List.take_of_length_le (by rw [h3]; omega), show (n + 1) * 3 - 3 = n * 3 by omega]
structure InpV (w : World) (p : Nat) (v : Value) (L : List Sc) (M : Nat) : Prop where
  c0 : w.cell? ⟨p, 0, none⟩ = some v
  c1 : w.cell? ⟨p, 1, none⟩ = some (.int .i64 (M : Int))
  f : ∀ i, w.frozen? ⟨p, i, none⟩ = false
  lp : p < w.heap.size
  row : w.ownsRow 0 116 3 v L.length (flats L)
  sep : v.ownBlock ≠ some p
  ok : ∀ x ∈ L, x.i ≤ x.t.length ∧ x.t.length ≤ 1000
  dep : L.length ≤ 8
def Inp (w : World) (p : Nat) (S : List Nat) (L : List Sc) (M : Nat) : Prop := ∃ v, InpV w p v L M ∧ S = p :: v.ownBlock.toList
theorem InpV.lt {w : World} {p : Nat} {v : Value} {L : List Sc} {M : Nat} (h : InpV w p v L M) : ∀ x ∈ p :: v.ownBlock.toList, x < w.heap.size := fun x hx => by
  rcases List.mem_cons.1 hx with rfl | hx
  · exact h.lp
  · exact (h.row.lt x (by simpa using hx)).2
theorem Inp.lt {w : World} {p : Nat} {S : List Nat} {L : List Sc} {M : Nat} (h : Inp w p S L M) : ∀ x ∈ S, x < w.heap.size := by
  obtain ⟨v, h, rfl⟩ := h
  exact h.lt
theorem row_mod {w w' : World} {S : List Nat} {e : TypeId} {k : Nat} {v : Value} {n : Nat} {xs : List Value} (h : w.ownsRow 0 e k v n xs) (m : Mod S w w') (hS : ∀ g, v.ownBlock = some g → g ∉ S) : w'.ownsRow 0 e k v n xs := by
  refine ⟨h.1, h.2.elim Or.inl fun ⟨g, cap, cur, h1, h2, h3, h4⟩ => Or.inr ⟨g, cap, cur, h1, h2, ?_, h4⟩⟩
  subst h1
  rw [m.block g (Array.getElem?_eq_some_iff.1 h3).1 (hS g rfl)]
  exact h3
theorem InpV.mod {w w' : World} {S : List Nat} {p : Nat} {v : Value} {L : List Sc} {M : Nat} (h : InpV w p v L M) (m : Mod S w w') (hS : ∀ x ∈ p :: v.ownBlock.toList, x ∉ S) : InpV w' p v L M :=
  have hp : p ∉ S := hS p (by simp)
  ⟨m.cell hp h.c0, m.cell hp h.c1, fun i => (m.frozen hp h.lp).trans (h.f i), Nat.lt_of_lt_of_le h.lp m.size, row_mod h.row m fun g hg => hS g (by simp [hg]), h.sep, h.ok, h.dep⟩
theorem Inp.mod {w w' : World} {S T : List Nat} {p : Nat} {L : List Sc} {M : Nat} (h : Inp w p T L M) (m : Mod S w w') (hS : ∀ x ∈ T, x ∉ S) : Inp w' p T L M := by
  obtain ⟨v, h, rfl⟩ := h
  exact ⟨v, h.mod m hS, rfl⟩
theorem Inp.far {w w' : World} {T : List Nat} {p : Nat} {L : List Sc} {M : Nat} (h : Inp w p T L M) (m : Mod [] w w') : Inp w' p T L M := h.mod m (by simp)
def Turn (S S' : List Nat) (w w' : World) : Prop := Mod S w w' ∧ ∀ x ∈ S', x ∈ S ∨ w.heap.size ≤ x
theorem Turn.refl (S : List Nat) (w : World) : Turn S S w w := ⟨Mod.refl S w, fun x h => Or.inl h⟩
theorem Turn.of {S : List Nat} {w w' : World} (h : Mod S w w') : Turn S S w w' := ⟨h, fun x h => Or.inl h⟩
theorem InpV.opened {w : World} {p : Nat} {v : Value} {L : List Sc} {M : Nat} (h : InpV w p v L M) : ∃ A cap, v = .slice A L.length cap := by
  rcases h.row.2 with ⟨rfl, h0⟩ | ⟨g, cap, cur, rfl, _⟩
  · exact ⟨none, 0, by rw [h0]⟩
  · exact ⟨_, _, rfl⟩
theorem InpV.top {w : World} {p : Nat} {v : Value} {B : List Sc} {x : Sc} {M : Nat} (h : InpV w p v (B ++ [x]) M) :
    ∃ g cap, v = .slice (some ⟨g, 0, none⟩) (B.length + 1) cap ∧ g ≠ p ∧ g < w.heap.size ∧ w.cell? ⟨g, B.length * 3, none⟩ = some (.string (str x.t)) ∧ w.cell? ⟨g, B.length * 3 + 1, none⟩ = some (.int .i64 (x.i : Int)) ∧ w.cell? ⟨g, B.length * 3 + 2, none⟩ = some (.int .i64 (x.n : Int)) ∧ ∀ j, w.frozen? ⟨g, j, none⟩ = false := by
  have hrow := h.row
  rcases h.row.2 with ⟨_, h0⟩ | ⟨g, cap, cur, rfl, _, hg, _⟩
  · simp at h0
  · have hl : (B ++ [x]).length = B.length + 1 := by simp
    have get : ∀ k, k < 3 → w.cell? ⟨g, B.length * 3 + k, none⟩ = (flat x)[k]? := fun k hk => by
      rw [hrow.cellAt (B.length * 3 + k) (by rw [hl]; omega), flats_get B x [] k hk]
    refine ⟨g, cap, by rw [hl], fun e => h.sep (by rw [e]; rfl), (Array.getElem?_eq_some_iff.1 hg).1, get 0 (by omega), get 1 (by omega), get 2 (by omega), hrow.frozenAt⟩
theorem InpV.set {w : World} {p g n cap : Nat} {B : List Sc} {x : Sc} {M : Nat} (h : InpV w p (.slice (some ⟨g, 0, none⟩) n cap) (B ++ [x]) M) (j : Nat) (hj : j ≤ x.t.length) :
    InpV (w.setCell ⟨g, B.length * 3 + 1, none⟩ (.int .i64 (j : Int))) p (.slice (some ⟨g, 0, none⟩) n cap) (B ++ [{ x with i := j }]) M ∧ Mod [g] w (w.setCell ⟨g, B.length * 3 + 1, none⟩ (.int .i64 (j : Int))) := by
  have hne : g ≠ p := fun e => h.sep (by rw [e]; rfl)
  have hm : Mod [g] w (w.setCell ⟨g, B.length * 3 + 1, none⟩ (.int .i64 (j : Int))) := (Mod.refl [g] w).set (x := ⟨g, B.length * 3 + 1, none⟩) (Or.inl (by simp)) _
  have hp : p ∉ [g] := by simpa using hne.symm
  have hn : n = (B ++ [x]).length := by
    obtain ⟨A, c, e⟩ := h.opened
    injection e
  subst hn
  refine ⟨⟨hm.cell hp h.c0, hm.cell hp h.c1, fun i => (hm.frozen hp h.lp).trans (h.f i), Nat.lt_of_lt_of_le h.lp hm.size, ?_, h.sep, ?_, by simpa using h.dep⟩, hm⟩
  · have := (h.row.stored (B.length * 3 + 1) (.int .i64 (j : Int))).1
    rw [flats_set] at this
    simpa using this
  · intro y hy
    rcases List.mem_append.1 hy with hy | hy
    · exact h.ok y (List.mem_append.2 (Or.inl hy))
    · obtain rfl : y = { x with i := j } := by simpa using hy
      exact ⟨hj, (h.ok x (by simp)).2⟩
end Go.Proofs.YtifnkmddinoneaaGreatDoor.L8
namespace Go.Proofs.YtifnkmddinoneaaGreatDoor.L14
open Go.RowKit
set_option linter.unusedVariables false

abbrev TF : TypeId := 45
abbrev Pt (p : Nat) : Value := .pointer (some ⟨p, 0, none⟩)
theorem size_allocI (w : World) (o : Obj) : (w.alloc o).heap.size = w.heap.size + 1 := by simp
theorem set_mod (w : World) (b k : Nat) (v : Value) : Mod [b] w (w.setCell ⟨b, k, none⟩ v) := (Mod.refl [b] w).set (x := ⟨b, k, none⟩) (Or.inl (by simp)) v
theorem al_mod (w : World) (o : Obj) : Mod [] w (w.alloc o) := (Mod.refl [] w).alloc o
theorem cell_eq {w : World} {b : Nat} {cs : Array Value} {t : TypeId} {m : Nat × Nat} (h : w.heap[b]? = some (.cells cs t m)) (i : Nat) : w.cell? ⟨b, i, none⟩ = cs[i]? := by simp only [World.cell?, h]; rfl
theorem row_mod {w w' : World} {S : List Nat} {e : TypeId} {k : Nat} {v : Value} {n : Nat} {xs : List Value} (h : w.ownsRow 0 e k v n xs) (m : Mod S w w') (hS : ∀ g, v.ownBlock = some g → g ∉ S) : w'.ownsRow 0 e k v n xs := by
  refine ⟨h.1, h.2.elim Or.inl fun ⟨g, cap, cur, h1, h2, h3, h4⟩ => Or.inr ⟨g, cap, cur, h1, h2, ?_, h4⟩⟩
  subst h1
  rw [m.block g (Array.getElem?_eq_some_iff.1 h3).1 (hS g rfl)]
  exact h3
def Turn (S S' : List Nat) (w w' : World) : Prop := Mod S w w' ∧ ∀ x ∈ S', x ∈ S ∨ w.heap.size ≤ x
theorem Turn.refl (S : List Nat) (w : World) : Turn S S w w := ⟨Mod.refl S w, fun x h => Or.inl h⟩
theorem Turn.trans {S T U : List Nat} {a b c : World} (h : Turn S T a b) (k : Turn T U b c) : Turn S U a c :=
  ⟨h.1.then k.1 h.2, fun x hx => (k.2 x hx).elim (h.2 x) fun hl => Or.inr (Nat.le_trans h.1.size hl)⟩
theorem Turn.far {S T : List Nat} {a b c : World} (h : Turn S T a b) (k : Mod [] b c) : Turn S T a c := ⟨h.1.far k, h.2⟩
theorem Turn.ahead {S T : List Nat} {a b c : World} (k : Mod [] a b) (h : Turn S T b c) : Turn S T a c := ⟨(k.up (by simp)).trans h.1, fun x hx => (h.2 x hx).imp id fun l => Nat.le_trans k.size l⟩
def Ls (w : World) (s : Value) (l : List Int) : Prop := ∃ A cap, s = .slice A l.length cap ∧ (A = none → cap = 0) ∧ l.length ≤ cap ∧ cap ≤ 9223372036854775807 ∧ Sl w A l
def Lc (w : World) (s : Value) (l : List Int) : Prop := (s = .slice none 0 0 ∧ l = []) ∨ ∃ b c, s = .slice (some ⟨b, 0, none⟩) l.length c ∧ Ow w b l c
theorem Lc.nil (w : World) : Lc w (.slice none 0 0) [] := Or.inl ⟨rfl, rfl⟩
theorem Lc.ls {w : World} {s : Value} {l : List Int} (h : Lc w s l) : Ls w s l := by
  rcases h with ⟨rfl, rfl⟩ | ⟨b, c, rfl, ho⟩
  · exact ⟨none, 0, rfl, fun _ => rfl, by simp, by omega, Sl.nil _ _⟩
  · obtain ⟨cur, h1, h2, h3, h4, h5⟩ := ho
    exact ⟨_, c, rfl, (fun e => by cases e), h3, h4, (show Ow w b l c from ⟨cur, h1, h2, h3, h4, h5⟩).sl⟩
theorem Ls.one {w : World} {s : Value} {l : List Int} (h : Ls w s l) : s.oneCell' = true := by
  obtain ⟨A, cap, rfl, _⟩ := h
  rfl
theorem Ls.mod {S : List Nat} {w w' : World} {s : Value} {l : List Int} (h : Ls w s l) (m : Mod S w w') (hS : ∀ g, s.ownBlock = some g → g ∉ S) : Ls w' s l := by
  obtain ⟨A, cap, rfl, h1, h2, h3, h4⟩ := h
  exact ⟨A, cap, rfl, h1, h2, h3, h4.mod m fun a ha => hS a.block (by rw [ha]; rfl)⟩
theorem Ls.far {w w' : World} {s : Value} {l : List Int} (h : Ls w s l) (m : Mod [] w w') : Ls w' s l := h.mod m (by simp)
theorem Lc.mod {S : List Nat} {w w' : World} {s : Value} {l : List Int} (h : Lc w s l) (m : Mod S w w') (hS : ∀ g, s.ownBlock = some g → g ∉ S) : Lc w' s l := by
  rcases h with ⟨rfl, rfl⟩ | ⟨b, c, rfl, ho⟩
  · exact Lc.nil _
  · exact Or.inr ⟨b, c, rfl, ho.mod m (hS b rfl)⟩
theorem Lc.far {w w' : World} {s : Value} {l : List Int} (h : Lc w s l) (m : Mod [] w w') : Lc w' s l := h.mod m (by simp)
theorem Lc.lt {w : World} {s : Value} {l : List Int} (h : Lc w s l) : ∀ g, s.ownBlock = some g → g < w.heap.size := by
  rcases h with ⟨rfl, rfl⟩ | ⟨b, c, rfl, ho⟩
  · intro g hg; cases hg
  · intro g hg
    cases hg
    exact ho.lt
def frV (q : Fm) (s : Value) : Value := .agg #[.int .i64 q.k, .int .i64 q.a, .int .i64 q.b, .int .i64 q.x, .int .i64 q.y, s]
def flatF (q : Fm × Value) : List Value := [.int .i64 q.1.k, .int .i64 q.1.a, .int .i64 q.1.b, .int .i64 q.1.x, .int .i64 q.1.y, q.2]
def flatG (O : List (Fm × Value)) : List Value := O.flatMap flatF
theorem flatG_len (O : List (Fm × Value)) : (flatG O).length = O.length * 6 := by
  induction O with
  | nil => rfl
  | cons x r ih => simp only [flatG, List.flatMap_cons, List.length_append] at ih ⊢; rw [ih]; simp [flatF]; omega
theorem flatG_app (A B : List (Fm × Value)) : flatG (A ++ B) = flatG A ++ flatG B := by simp [flatG]
theorem flatG_one (q : Fm × Value) : flatG [q] = flatF q := by simp [flatG]
theorem flatG_get (B : List (Fm × Value)) (x : Fm × Value) (C : List (Fm × Value)) (k : Nat) (hk : k < 6) : (flatG (B ++ x :: C))[B.length * 6 + k]? = (flatF x)[k]? := by
  have e : flatG (B ++ x :: C) = flatG B ++ (flatF x ++ flatG C) := by simp [flatG]
  rw [e, List.getElem?_append_right (by rw [flatG_len]; omega), flatG_len, Nat.add_sub_cancel_left, List.getElem?_append_left (by simp [flatF]; omega)]
theorem flatG_set (B : List (Fm × Value)) (x y : Fm × Value) (C : List (Fm × Value)) (k : Nat) (hk : k < 6) (v : Value) (hy : (flatF x).set k v = flatF y) : (flatG (B ++ x :: C)).set (B.length * 6 + k) v = flatG (B ++ y :: C) := by
  have e : ∀ y, flatG (B ++ y :: C) = flatG B ++ (flatF y ++ flatG C) := fun y => by simp [flatG]
  rw [e, e, List.set_append_right _ _ (by rw [flatG_len]; omega), flatG_len, Nat.add_sub_cancel_left, List.set_append_left _ _ (by simp [flatF]; omega), hy]
theorem flatG_take (O : List (Fm × Value)) (n : Nat) : (flatG O).take (n * 6) = flatG (O.take n) := by
  by_cases hn : n ≤ O.length
  · have e : flatG O = flatG (O.take n) ++ flatG (O.drop n) := by rw [← flatG_app, List.take_append_drop]
    have hl : (flatG (O.take n)).length = n * 6 := by rw [flatG_len, List.length_take, Nat.min_eq_left hn]
    rw [e, ← hl, List.take_left']
    rfl
  · rw [List.take_of_length_le (by rw [flatG_len]; omega), List.take_of_length_le (by omega)]
theorem flatG_cells {O : List (Fm × Value)} (h : ∀ q ∈ O, q.2.oneCell' = true) : ∀ u ∈ flatG O, u.oneCell' = true := fun u hu => by
  obtain ⟨x, hx, hu⟩ := List.mem_flatMap.1 hu
  simp [flatF] at hu
  rcases hu with rfl | rfl | rfl | rfl | rfl | rfl
  iterate 5 rfl
  exact h x hx
def lbs (O : List (Fm × Value)) : List Nat := O.flatMap fun q => q.2.ownBlock.toList
theorem lbs_app (A B : List (Fm × Value)) : lbs (A ++ B) = lbs A ++ lbs B := by simp [lbs]
theorem lbs_cons (q : Fm × Value) (B : List (Fm × Value)) : lbs (q :: B) = q.2.ownBlock.toList ++ lbs B := by simp [lbs]
theorem mem_lbs {O : List (Fm × Value)} {x : Nat} : x ∈ lbs O ↔ ∃ q ∈ O, q.2.ownBlock = some x := by simp [lbs, List.mem_flatMap]
def Sf (p : Nat) (v : Value) (O : List (Fm × Value)) : List Nat := p :: (v.ownBlock.toList ++ lbs O)
theorem mem_Sf {p : Nat} {v : Value} {O : List (Fm × Value)} {x : Nat} : x ∈ Sf p v O ↔ x = p ∨ v.ownBlock = some x ∨ x ∈ lbs O := by
  simp [Sf]
structure Fv (tB : TypeId) (w : World) (p : Nat) (v : Value) (O : List (Fm × Value)) : Prop where
  blk : w.heap[p]? = some (.cells #[v] tB (0, 0))
  row : w.ownsRow 0 TF 6 v O.length (flatG O)
  loc : ∀ q ∈ O, Lc w q.2 q.1.l
  sep : (Sf p v O).Nodup
  few : O.length ≤ 128
variable {tB : TypeId} {w w' : World} {p : Nat} {v : Value} {O : List (Fm × Value)}
theorem Fv.lp (h : Fv tB w p v O) : p < w.heap.size := (Array.getElem?_eq_some_iff.1 h.blk).1
theorem Fv.lv (h : Fv tB w p v O) : ∀ g, v.ownBlock = some g → g < w.heap.size := fun g hg => (World.ownsRow.lt h.row g hg).2
theorem Fv.ll (h : Fv tB w p v O) : ∀ x ∈ lbs O, x < w.heap.size := fun x hx => by
  obtain ⟨q, hq, e⟩ := mem_lbs.1 hx
  exact (h.loc q hq).lt x e
theorem Fv.lt (h : Fv tB w p v O) : ∀ x ∈ Sf p v O, x < w.heap.size := fun x hx => by
  rcases mem_Sf.1 hx with rfl | hx | hx
  · exact h.lp
  · exact h.lv x hx
  · exact h.ll x hx
theorem Fv.mod {T : List Nat} (h : Fv tB w p v O) (m : Mod T w w') (hS : ∀ x ∈ Sf p v O, x ∉ T) : Fv tB w' p v O :=
  ⟨(m.block p h.lp (hS p (mem_Sf.2 (Or.inl rfl)))).trans h.blk, row_mod h.row m fun g hg => hS g (mem_Sf.2 (Or.inr (Or.inl hg))),
   fun q hq => (h.loc q hq).mod m fun g hg => hS g (mem_Sf.2 (Or.inr (Or.inr (mem_lbs.2 ⟨q, hq, hg⟩)))), h.sep, h.few⟩
theorem Fv.far (h : Fv tB w p v O) (m : Mod [] w w') : Fv tB w' p v O := h.mod m (by simp)
theorem Fv.c0 (h : Fv tB w p v O) : w.cell? ⟨p, 0, none⟩ = some v := cell_eq h.blk 0
theorem Fv.f (h : Fv tB w p v O) (i : Nat) : w.frozen? ⟨p, i, none⟩ = false := by simp only [World.frozen?, h.blk]; rfl
theorem Fv.np (h : Fv tB w p v O) : v.ownBlock ≠ some p ∧ p ∉ lbs O := by
  have := (List.nodup_cons.1 h.sep).1
  simp only [List.mem_append, not_or] at this
  exact ⟨fun e => this.1 (by rw [e]; simp), this.2⟩
theorem Fv.nv (h : Fv tB w p v O) : ∀ g, v.ownBlock = some g → g ∉ lbs O := fun g hg hx => by
  have := (List.nodup_append.1 (List.nodup_cons.1 h.sep).2).2.2
  exact this g (by rw [hg]; simp) g hx rfl
theorem Fv.nl (h : Fv tB w p v O) : (lbs O).Nodup := (List.nodup_append.1 (List.nodup_cons.1 h.sep).2).2.1
theorem sep_of {p : Nat} {v : Value} {O : List (Fm × Value)} (h1 : v.ownBlock ≠ some p) (h2 : p ∉ lbs O) (h3 : ∀ g, v.ownBlock = some g → g ∉ lbs O) (h4 : (lbs O).Nodup) : (Sf p v O).Nodup := by
  refine List.nodup_cons.2 ⟨?_, List.nodup_append.2 ⟨?_, h4, ?_⟩⟩
  · simp only [List.mem_append, not_or, Option.mem_toList]
    exact ⟨h1, h2⟩
  · cases v.ownBlock <;> simp
  · intro a ha b hb e
    subst e
    exact h3 a (by simpa using ha) hb
theorem Fv.slice (h : Fv tB w p v O) : ∃ A cap, v = .slice A O.length cap ∧ (A = none → cap = 0) ∧ O.length ≤ cap ∧ cap ≤ 9223372036854775807 := by
  rcases h.row.2 with ⟨rfl, h0⟩ | ⟨b, cap, cur, rfl, _, _, h4, h5, _⟩
  · exact ⟨none, 0, by rw [h0], fun _ => rfl, by omega, by omega⟩
  · exact ⟨_, cap, rfl, by simp, h4, h5⟩
theorem Fv.at_ {A B : List (Fm × Value)} {q : Fm × Value} (h : Fv tB w p v (A ++ q :: B)) : ∃ g cap, v = .slice (some ⟨g, 0, none⟩) (A ++ q :: B).length cap ∧ g ≠ p ∧
    (∀ k, k < 6 → w.cell? ⟨g, A.length * 6 + k, none⟩ = (flatF q)[k]?) ∧ (∀ j, w.frozen? ⟨g, j, none⟩ = false) ∧ (A ++ q :: B).length ≤ cap ∧ cap ≤ 9223372036854775807 := by
  have hr := h.row
  have hop := h.np.1
  rcases h.row.2 with ⟨_, h0⟩ | ⟨g, cap, cur, rfl, _, _, h4, h5, _⟩
  · simp at h0
  · have get : ∀ k, k < 6 → w.cell? ⟨g, A.length * 6 + k, none⟩ = (flatF q)[k]? := fun k hk => by
      rw [hr.cellAt (A.length * 6 + k) (by simp; omega), flatG_get A q B k hk]
    exact ⟨g, cap, rfl, fun e => hop (by rw [e]; rfl), get, hr.frozenAt, h4, h5⟩
theorem Fv.make {W : World} {v' : Value} {O' : List (Fm × Value)} (hb : W.heap[p]? = some (.cells #[v] tB (0, 0))) (hr : W.ownsRow 0 TF 6 v' O'.length (flatG O')) (hl : ∀ q ∈ O', Lc W q.2 q.1.l) (hs : (Sf p v' O').Nodup) (hn : O'.length ≤ 128) :
    Fv tB (W.setCell ⟨p, 0, none⟩ v') p v' O' := by
  have hm := set_mod W p 0 v'
  have h1 : v'.ownBlock ≠ some p := fun e => (List.nodup_cons.1 hs).1 (by rw [e]; simp)
  have h2 : p ∉ lbs O' := fun e => (List.nodup_cons.1 hs).1 (by simp [e])
  refine ⟨heap_setCell_same W p 0 _ _ _ hb, row_mod hr hm fun g hg hx => h1 (by rw [hg]; simpa using hx), fun q hq => (hl q hq).mod hm fun g hg hx => h2 ?_, hs, hn⟩
  have : g = p := by simpa using hx
  subst this
  exact mem_lbs.2 ⟨q, hq, hg⟩
theorem Fv.shrunk {A : Option Addr} {n cap x : Nat} {W : World} (h : Fv tB w p (.slice A n cap) O) (m : Mod (Value.slice A n cap).ownBlock.toList w W) (hr : W.ownsRow 0 TF 6 (.slice A x cap) x (flatG (O.take x))) (hx : x ≤ O.length) :
    Fv tB (W.setCell ⟨p, 0, none⟩ (.slice A x cap)) p (.slice A x cap) (O.take x) ∧ Turn (Sf p (.slice A n cap) O) (Sf p (.slice A x cap) (O.take x)) w (W.setCell ⟨p, 0, none⟩ (.slice A x cap)) := by
  have hv : (Value.slice A x cap).ownBlock = (Value.slice A n cap).ownBlock := by cases A <;> rfl
  have hlb : (lbs (O.take x)).Sublist (lbs O) := by
    have e : lbs O = lbs (O.take x) ++ lbs (O.drop x) := by rw [← lbs_app, List.take_append_drop]
    rw [e]
    exact List.sublist_append_left _ _
  have hsub : (Sf p (.slice A x cap) (O.take x)).Sublist (Sf p (.slice A n cap) O) := by
    unfold Sf
    rw [hv]
    exact List.Sublist.cons_cons _ (List.Sublist.append (List.Sublist.refl _) hlb)
  have hl : (O.take x).length = x := by simp; omega
  have nb : ∀ g ∈ (Value.slice A n cap).ownBlock.toList, g ≠ p ∧ g ∉ lbs O := fun g hg => by
    have hg' : (Value.slice A n cap).ownBlock = some g := by simpa using hg
    exact ⟨fun e => h.np.1 (by rw [hg', e]), h.nv g hg'⟩
  refine ⟨Fv.make (v := .slice A n cap) ((m.block p h.lp fun hx => (nb p hx).1 rfl).trans h.blk) (by rw [hl]; exact hr) (fun q hq => (h.loc q (List.mem_of_mem_take hq)).mod m fun g hg hx => (nb g hx).2 (mem_lbs.2 ⟨q, List.mem_of_mem_take hq, hg⟩)) (h.sep.sublist hsub) (by have := h.few; omega), ?_, fun y hy => Or.inl (hsub.subset hy)⟩
  exact (m.up fun y hy => mem_Sf.2 (Or.inr (Or.inl (by simpa using hy)))).trans ((set_mod W p 0 _).up fun y hy => mem_Sf.2 (Or.inl (by simpa using hy)))
theorem row_cut {e : TypeId} {k n cap : Nat} {A : Option Addr} {xs : List Value} (h : w.ownsRow 0 e k (.slice A n cap) n xs) (m : Nat) (hm : m ≤ n) : w.ownsRow 0 e k (.slice A m cap) m (xs.take (m * k)) := by
  have hle : m * k ≤ n * k := Nat.mul_le_mul_right k hm
  refine ⟨by rw [List.length_take, h.1]; exact Nat.min_eq_left hle, ?_⟩
  rcases h.2 with ⟨e, h0⟩ | ⟨g', cap', cur, e, hb, hg, h1, h2, h3, h4⟩
  · injection e with e1 e2 e3
    subst e1 e3
    exact Or.inl ⟨by rw [show m = 0 by omega], by omega⟩
  · injection e with e1 e2 e3
    subst e1 e3
    refine Or.inr ⟨g', cap, cur, rfl, hb, hg, by omega, h2, h3, ?_⟩
    rw [← h4, List.take_take, Nat.min_eq_left hle]
theorem Fv.grown {W : World} {v' : Value} {q : Fm × Value} (h : Fv tB w p v O) (m : Mod v.ownBlock.toList w W) (hr : W.ownsRow 0 TF 6 v' (O.length + 1) (flatG (O ++ [q]))) (hv : v'.ownBlock = v.ownBlock ∨ ∃ g, v'.ownBlock = some g ∧ w.heap.size ≤ g ∧ q.2.ownBlock ≠ some g) (hl : Lc W q.2 q.1.l) (hq : ∀ g, q.2.ownBlock = some g → w.heap.size ≤ g) (hn : O.length < 128) :
    Fv tB (W.setCell ⟨p, 0, none⟩ v') p v' (O ++ [q]) ∧ Turn (Sf p v O) (Sf p v' (O ++ [q])) w (W.setCell ⟨p, 0, none⟩ v') := by
  have nb : ∀ g ∈ v.ownBlock.toList, g ≠ p ∧ g ∉ lbs O := fun g hg => by
    have hg' : v.ownBlock = some g := by simpa using hg
    exact ⟨fun e => h.np.1 (by rw [hg', e]), h.nv g hg'⟩
  have hlq : lbs [q] = q.2.ownBlock.toList := by simp [lbs]
  have e1 : lbs (O ++ [q]) = lbs O ++ q.2.ownBlock.toList := by rw [lbs_app, hlq]
  have hp := h.lp
  refine ⟨Fv.make (v := v) ((m.block p h.lp fun hx => (nb p hx).1 rfl).trans h.blk) (by rw [List.length_append]; exact hr) (fun r hr => ?_) (sep_of ?_ ?_ ?_ ?_) (by simp; omega), ?_, fun y hy => ?_⟩
  · rcases List.mem_append.1 hr with hr | hr
    · exact (h.loc r hr).mod m fun g hg hx => (nb g hx).2 (mem_lbs.2 ⟨r, hr, hg⟩)
    · rw [List.mem_singleton.1 hr]; exact hl
  · rcases hv with e | ⟨g, e, hg, _⟩
    · rw [e]; exact h.np.1
    · rw [e]; intro hx; injection hx with hx; omega
  · rw [e1]
    simp only [List.mem_append, not_or, Option.mem_toList]
    exact ⟨h.np.2, fun e => by have := hq p e; omega⟩
  · intro g hg
    rw [e1]
    simp only [List.mem_append, not_or, Option.mem_toList]
    rcases hv with e | ⟨g', e, hg', hn'⟩
    · rw [e] at hg
      exact ⟨h.nv g hg, fun e' => by have := hq g e'; have := h.lv g hg; omega⟩
    · rw [e] at hg
      injection hg with hg
      subst hg
      exact ⟨fun hx => by have := h.ll g' hx; omega, hn'⟩
  · rw [e1]
    refine List.nodup_append.2 ⟨h.nl, ?_, ?_⟩
    · cases q.2.ownBlock <;> simp
    · intro a ha b hb e
      subst e
      have := h.ll a ha
      have := hq a (by simpa using hb)
      omega
  · exact (m.up fun y hy => mem_Sf.2 (Or.inr (Or.inl (by simpa using hy)))).trans ((set_mod W p 0 _).up fun y hy => mem_Sf.2 (Or.inl (by simpa using hy)))
  · rcases mem_Sf.1 hy with rfl | hy | hy
    · exact Or.inl (mem_Sf.2 (Or.inl rfl))
    · rcases hv with e | ⟨g, e, hg, _⟩
      · rw [e] at hy; exact Or.inl (mem_Sf.2 (Or.inr (Or.inl hy)))
      · rw [e] at hy; injection hy with hy; exact Or.inr (by omega)
    · rw [e1] at hy
      rcases List.mem_append.1 hy with hy | hy
      · exact Or.inl (mem_Sf.2 (Or.inr (Or.inr hy)))
      · exact Or.inr (hq y (by simpa using hy))
theorem Fv.setX {A B : List (Fm × Value)} {q : Fm × Value} {g n cap : Nat} (h : Fv tB w p (.slice (some ⟨g, 0, none⟩) n cap) (A ++ q :: B)) (x : Int) :
    Fv tB (w.setCell ⟨g, A.length * 6 + 3, none⟩ (.int .i64 x)) p (.slice (some ⟨g, 0, none⟩) n cap) (A ++ ({ q.1 with x := x }, q.2) :: B) ∧ Mod [g] w (w.setCell ⟨g, A.length * 6 + 3, none⟩ (.int .i64 x)) := by
  have hm := set_mod w g (A.length * 6 + 3) (.int .i64 x)
  have hv : (Value.slice (some ⟨g, 0, none⟩) n cap).ownBlock = some g := rfl
  have hgp : g ≠ p := fun e => h.np.1 (by rw [hv, e])
  have hnl := h.nv g hv
  have hn : n = (A ++ q :: B).length := by
    obtain ⟨A', c, e, _⟩ := h.slice
    injection e
  have elb : lbs (A ++ ({ q.1 with x := x }, q.2) :: B) = lbs (A ++ q :: B) := by rw [lbs_app, lbs_app, lbs_cons, lbs_cons]
  refine ⟨⟨(hm.block p h.lp (by simpa using hgp.symm)).trans h.blk, ?_, fun r hr => ?_, ?_, by have := h.few; simpa using this⟩, hm⟩
  · have hr := h.row
    rw [← hn] at hr
    have := (hr.stored (A.length * 6 + 3) (.int .i64 x)).1
    rw [flatG_set A q ({ q.1 with x := x }, q.2) B 3 (by omega) (.int .i64 x) rfl] at this
    rw [show (A ++ ({ q.1 with x := x }, q.2) :: B).length = n by rw [hn]; simp]
    exact this
  · have key : ∀ r ∈ A ++ q :: B, Lc (w.setCell ⟨g, A.length * 6 + 3, none⟩ (.int .i64 x)) r.2 r.1.l := fun r hr => (h.loc r hr).mod hm fun b hb hx => by
      have : b = g := by simpa using hx
      subst this
      exact hnl (mem_lbs.2 ⟨r, hr, hb⟩)
    rcases List.mem_append.1 hr with hr | hr
    · exact key r (by simp [hr])
    · rcases List.mem_cons.1 hr with hr | hr
      · rw [hr]; exact key q (by simp)
      · exact key r (by simp [hr])
  · unfold Sf; rw [elb]; exact h.sep
theorem Fv.setL {A B : List (Fm × Value)} {q : Fm} {b n cap : Nat} (h : Fv tB w p v (A ++ (q, .slice (some ⟨b, 0, none⟩) n cap) :: B)) (i : Nat) (hi : i < q.l.length) (x : Int) :
    Fv tB (w.setCell ⟨b, i, none⟩ (.int .i64 x)) p v (A ++ ({ q with l := q.l.set i x }, .slice (some ⟨b, 0, none⟩) n cap) :: B) ∧ Mod [b] w (w.setCell ⟨b, i, none⟩ (.int .i64 x)) := by
  have hm := set_mod w b i (.int .i64 x)
  have hbl : b ∈ lbs (A ++ (q, .slice (some ⟨b, 0, none⟩) n cap) :: B) := mem_lbs.2 ⟨(q, .slice (some ⟨b, 0, none⟩) n cap), by simp, rfl⟩
  have hbp : b ≠ p := fun e => h.np.2 (e ▸ hbl)
  have hbv : v.ownBlock ≠ some b := fun e => h.nv b e hbl
  have elb : lbs (A ++ ({ q with l := q.l.set i x }, .slice (some ⟨b, 0, none⟩) n cap) :: B) = lbs (A ++ (q, .slice (some ⟨b, 0, none⟩) n cap) :: B) := by rw [lbs_app, lbs_app, lbs_cons, lbs_cons]
  have hnl := h.nl
  rw [lbs_app, lbs_cons, List.nodup_append] at hnl
  obtain ⟨_, n2, n3⟩ := hnl
  have n4 := (List.nodup_append.1 n2).2.2
  have hbA : b ∉ lbs A := fun hx => n3 b hx b (by simp [Value.ownBlock]) rfl
  have hbB : b ∉ lbs B := fun hx => n4 b (by simp [Value.ownBlock]) b hx rfl
  have hlc := h.loc (q, .slice (some ⟨b, 0, none⟩) n cap) (by simp)
  refine ⟨⟨(hm.block p h.lp (by simpa using hbp.symm)).trans h.blk, ?_, fun r hr => ?_, ?_, by have := h.few; simpa using this⟩, hm⟩
  · have e : flatG (A ++ ({ q with l := q.l.set i x }, .slice (some ⟨b, 0, none⟩) n cap) :: B) = flatG (A ++ (q, .slice (some ⟨b, 0, none⟩) n cap) :: B) := by simp [flatG, flatF]
    rw [e, show (A ++ ({ q with l := q.l.set i x }, .slice (some ⟨b, 0, none⟩) n cap) :: B).length = (A ++ (q, .slice (some ⟨b, 0, none⟩) n cap) :: B).length by simp]
    exact row_mod h.row hm fun g hg hx => hbv (by rw [hg]; simpa using hx)
  · have key : ∀ (L : List (Fm × Value)), b ∉ lbs L → (∀ r ∈ L, r ∈ A ++ (q, .slice (some ⟨b, 0, none⟩) n cap) :: B) → ∀ r ∈ L, Lc (w.setCell ⟨b, i, none⟩ (.int .i64 x)) r.2 r.1.l := fun L hL hLm r1 hr1 => (h.loc r1 (hLm r1 hr1)).mod hm fun b' hb hx => by
      have e9 : b' = b := by simpa using hx
      exact hL (mem_lbs.2 ⟨r1, hr1, by rw [← e9]; exact hb⟩)
    rcases List.mem_append.1 hr with hr | hr
    · exact key A hbA (fun r' hr' => by simp [hr']) r hr
    · rcases List.mem_cons.1 hr with hr | hr
      · rw [hr]
        rcases hlc with ⟨e, _⟩ | ⟨b', c', e, ho⟩
        · cases e
        · injection e with e1 e2 e3
          injection e1 with e1
          injection e1 with e1
          subst e1 e3
          refine Or.inr ⟨b, cap, by simpa using e2, ?_⟩
          obtain ⟨cur, h1, h2, h3, h4, h5⟩ := ho
          refine ⟨cur.set! i (.int .i64 x), ?_, by simpa using h2, by simpa using h3, h4, ?_⟩
          · have := heap_setCell_same w b i _ _ (.int .i64 x) h1
            rw [this]
            simp
          · simp only [List.length_set, Array.set!_eq_setIfInBounds, Array.toList_setIfInBounds]
            rw [List.take_set, h5]
            simp [cellsI, List.map_set]
      · exact key B hbB (fun r' hr' => by simp [hr']) r hr
  · unfold Sf; rw [elb]; exact h.sep
end Go.Proofs.YtifnkmddinoneaaGreatDoor.L14
namespace Go.Proofs.YtifnkmddinoneaaGreatDoor.L14
open Go.RowKit
set_option linter.unusedVariables false

/-- s is l, in new memory. -/
def New (w w' : World) (s : Value) (l : List Int) : Prop := Lc w' s l ∧ ∀ g, s.ownBlock = some g → w.heap.size ≤ g
theorem clone_ls {w : World} {s : Value} {l : List Int} (h : Ls w s l) (hb : l.length ≤ 1000000) :
    Calls Tryz.prog 58 #[s] w fun e w' => ∃ s', e = .returned s' ∧ New w w' s' l ∧ Mod [] w w' := by
  obtain ⟨A, cap, rfl, h1, h2, h3, h4⟩ := h
  cases A with
  | some a0 =>
    refine (clone_calls (cap := cap) h4 rfl a0 rfl (by omega)).mono ?_
    rintro e w' ⟨b, c, rfl, ho, m, hl⟩
    refine ⟨_, rfl, ⟨Or.inr ⟨b, c, rfl, ho⟩, fun g hg => ?_⟩, m⟩
    cases hg
    exact hl
  | none =>
    have hc := h1 rfl
    subst hc
    have hl : l = [] := List.eq_nil_of_length_eq_zero (by omega)
    subst hl
    clear h1 h2 h3 h4
    have q : ∀ W, (binOp .eql 25 (.slice none 0 0) (.slice none 0 0)).run Tryz.prog W = .ok (.bool true) W := fun W => Lib.run_eql_slice_nil W _ _ none 0 0 0 0 Tryz.underlying25
    go_enter Tryz.func58, Tryz.ntmps58
    go_wp2_with fail
    go_ret
    exact ⟨_, rfl, ⟨Lc.nil _, fun g hg => by cases hg⟩, Mod.refl _ _⟩
theorem two_box {w w' : World} {c1 c2 : Array Value} {t1 t2 : TypeId} (m : Mod [] ((w.alloc (.cells c1 t1)).alloc (.cells c2 t2)) w') : w'.heap[w.heap.size]? = some (.cells c1 t1 (0, 0)) ∧ w'.heap[w.heap.size + 1]? = some (.cells c2 t2 (0, 0)) := by
  have h1 := (MapKept.heap_alloc w (.cells c1 t1)).1
  have h2 := (MapKept.heap_alloc (w.alloc (.cells c1 t1)) (.cells c2 t2)).1
  rw [size_allocI] at h2
  refine ⟨(m.block _ (by rw [size_allocI, size_allocI]; omega) (by simp)).trans (((al_mod (w.alloc (.cells c1 t1)) (.cells c2 t2)).block _ (by rw [size_allocI]; omega) (by simp)).trans h1), (m.block _ (by rw [size_allocI, size_allocI]; omega) (by simp)).trans h2⟩
theorem frz_eq {w : World} {b : Nat} {cs : Array Value} {t : TypeId} (h : w.heap[b]? = some (.cells cs t (0, 0))) (i : Nat) : w.frozen? ⟨b, i, none⟩ = false := by simp only [World.frozen?, h]; rfl
theorem six_at {w : World} {b : Nat} {v0 v1 v2 v3 v4 v5 : Value} {t : TypeId} (h : w.heap[b]? = some (.cells #[v0, v1, v2, v3, v4, v5] t (0, 0))) :
    w.cell? ⟨b, 0, none⟩ = some v0 ∧ w.cell? ⟨b, 1, none⟩ = some v1 ∧ w.cell? ⟨b, 2, none⟩ = some v2 ∧ w.cell? ⟨b, 3, none⟩ = some v3 ∧ w.cell? ⟨b, 4, none⟩ = some v4 ∧ w.cell? ⟨b, 5, none⟩ = some v5 ∧
    w.frozen? ⟨b, 0, none⟩ = false ∧ w.frozen? ⟨b, 1, none⟩ = false ∧ w.frozen? ⟨b, 2, none⟩ = false ∧ w.frozen? ⟨b, 3, none⟩ = false ∧ w.frozen? ⟨b, 4, none⟩ = false ∧ w.frozen? ⟨b, 5, none⟩ = false :=
  ⟨cell_eq h 0, cell_eq h 1, cell_eq h 2, cell_eq h 3, cell_eq h 4, cell_eq h 5, frz_eq h 0, frz_eq h 1, frz_eq h 2, frz_eq h 3, frz_eq h 4, frz_eq h 5⟩
abbrev sixSet (w : World) (b : Nat) (v0 v1 v2 v3 v4 v5 : Value) : World :=
  (((((w.setCell ⟨b, 0, none⟩ v0).setCell ⟨b, 1, none⟩ v1).setCell ⟨b, 2, none⟩ v2).setCell ⟨b, 3, none⟩ v3).setCell ⟨b, 4, none⟩ v4).setCell ⟨b, 5, none⟩ v5
theorem six_set {w : World} {b : Nat} {u0 u1 u2 u3 u4 u5 v0 v1 v2 v3 v4 v5 : Value} {t : TypeId} (h : w.heap[b]? = some (.cells #[u0, u1, u2, u3, u4, u5] t (0, 0))) :
    (sixSet w b v0 v1 v2 v3 v4 v5).heap[b]? = some (.cells #[v0, v1, v2, v3, v4, v5] t (0, 0)) ∧ Mod [b] w (sixSet w b v0 v1 v2 v3 v4 v5) := by
  refine ⟨?_, ?_⟩
  · show ((((((w.setCell ⟨b, 0, none⟩ v0).setCell ⟨b, 1, none⟩ v1).setCell ⟨b, 2, none⟩ v2).setCell ⟨b, 3, none⟩ v3).setCell ⟨b, 4, none⟩ v4).setCell ⟨b, 5, none⟩ v5).heap[b]? = _
    rw [heap_setCell_same _ b 5 _ _ v5 (heap_setCell_same _ b 4 _ _ v4 (heap_setCell_same _ b 3 _ _ v3 (heap_setCell_same _ b 2 _ _ v2 (heap_setCell_same _ b 1 _ _ v1 (heap_setCell_same _ b 0 _ _ v0 h)))))]
    rfl
  · exact (((((set_mod w b 0 v0).trans (set_mod _ b 1 v1)).trans (set_mod _ b 2 v2)).trans (set_mod _ b 3 v3)).trans (set_mod _ b 4 v4)).trans (set_mod _ b 5 v5)
theorem res_fr {fn : Func} {a : Nat} (h : fn.results = #[.cell a TF]) {tmps : Array Value} {b : Nat} (ht : tmps[a]? = some (Pt b)) {W : World} {v0 v1 v2 v3 v4 v5 : Value} {t : TypeId} (hb : W.heap[b]? = some (.cells #[v0, v1, v2, v3, v4, v5] t (0, 0))) :
    (results fn tmps).run Tryz.prog W = .ok (.agg #[v0, v1, v2, v3, v4, v5]) W := by
  obtain ⟨c0, c1, c2, c3, c4, c5, _⟩ := six_at hb
  simp [results, h, ht, go_sem, c0, c1, c2, c3, c4, c5]
theorem res_fr2 {fn : Func} {a c : Nat} (h : fn.results = #[.cell a TF, .tmp c]) {tmps : Array Value} {b : Nat} (ht : tmps[a]? = some (Pt b)) {W : World} {v0 v1 v2 v3 v4 v5 : Value} {t : TypeId} (hb : W.heap[b]? = some (.cells #[v0, v1, v2, v3, v4, v5] t (0, 0))) :
    (results fn tmps).run Tryz.prog W = .ok (.tuple #[.agg #[v0, v1, v2, v3, v4, v5], tmps.getD c undef]) W := by
  obtain ⟨c0, c1, c2, c3, c4, c5, _⟩ := six_at hb
  simp [results, h, ht, go_sem, c0, c1, c2, c3, c4, c5]
abbrev zC : Array Value := #[.int .i64 0, .int .i64 0, .int .i64 0, .int .i64 0, .int .i64 0, .slice none 0 0]
set_option maxHeartbeats 4000000 in
theorem copied_calls {w : World} {q : Fm} {s : Value} (h : Ls w s q.l) (hb : q.l.length ≤ 1000000) :
    Calls Tryz.prog 43 #[frV q s] w fun e w' => ∃ s', e = .returned (frV q s') ∧ New w w' s' q.l ∧ Mod [] w w' := by
  obtain ⟨k, a, b, x, y, l⟩ := q
  have m1 := al_mod w (.cells #[.int .i64 k, .int .i64 a, .int .i64 b, .int .i64 x, .int .i64 y, s] TF)
  have m2 := m1.trans (al_mod _ (.cells zC TF))
  have H1 := Lib.hid (clone_ls (h.far m2) hb)
  have HM := Lib.hid m2
  unfold frV
  dsimp only at H1 ⊢
  clear h hb m1 m2
  go_enter Tryz.func43, Tryz.ntmps43
  go_wp2_with fail
  refine (H1.out).mono ?_
  rintro e w' ⟨s', rfl, hn, hm⟩
  obtain ⟨b1, b2⟩ := two_box hm
  obtain ⟨A', cap', rfl, _⟩ := hn.1.ls
  obtain ⟨c0, c1, c2, c3, c4, c5, f0, f1, f2, f3, f4, f5⟩ := six_at b1
  obtain ⟨d0, d1, d2, d3, d4, d5, g0, g1, g2, g3, g4, g5⟩ := six_at b2
  have HN := Lib.hid (And.intro hn (And.intro hm (And.intro b1 b2)))
  clear hn hm H1 b1 b2
  go_wp2_with fail
  obtain ⟨hn, hm, b1, b2⟩ := HN.out
  have s1 := set_mod w' w.heap.size 5 (.slice A' l.length cap')
  have b2' := (s1.block (w.heap.size + 1) (Array.getElem?_eq_some_iff.1 b2).1 (by simp)).trans b2
  obtain ⟨b3, s2⟩ := six_set (v0 := .int .i64 k) (v1 := .int .i64 a) (v2 := .int .i64 b) (v3 := .int .i64 x) (v4 := .int .i64 y) (v5 := .slice A' l.length cap') b2'
  refine bodyPost_ret (res_fr Tryz.results43 rfl b3) rfl ?_
  have hz : ((w.alloc (.cells #[.int .i64 k, .int .i64 a, .int .i64 b, .int .i64 x, .int .i64 y, s] TF)).alloc (.cells zC TF)).heap.size = w.heap.size + 2 := by rw [size_allocI, size_allocI]
  refine ⟨_, rfl, ⟨?_, fun g hg => ?_⟩, ?_⟩
  · refine (hn.1.mod s1 fun g hg hx => ?_).mod s2 fun g hg hx => ?_
    · have := hn.2 g hg; have : g = w.heap.size := by simpa using hx
      omega
    · have := hn.2 g hg; have : g = w.heap.size + 1 := by simpa using hx
      omega
  · have := hn.2 g hg; omega
  · exact ((HM.out.trans hm).far1 s1 (Nat.le_refl _)).far1 s2 (by omega)
end Go.Proofs.YtifnkmddinoneaaGreatDoor.L14
namespace Go.Proofs.YtifnkmddinoneaaGreatDoor.L12
set_option linter.unusedVariables false

def primT : List UInt8 := [10, 9, 9, 110, 101, 103, 97, 116, 101, 32, 97, 98, 115, 32, 105, 110, 118, 101, 114, 116, 32, 49, 43, 32, 49, 45, 32, 50, 42, 32, 50, 47, 32, 48, 61, 32, 48, 60, 32, 48, 60, 62, 32, 43, 32, 45, 32, 42, 32, 47, 32, 109, 111, 100, 32, 97, 110, 100, 32, 111, 114, 32, 120, 111, 114, 32, 108, 115, 104, 105, 102, 116, 32, 114, 115, 104, 105, 102, 116, 32, 61, 32, 60, 62, 32, 60, 32, 62, 32, 117, 60, 32, 109, 105, 110, 32, 109, 97, 120, 10, 9, 9, 100, 117, 112, 32, 100, 114, 111, 112, 32, 115, 119, 97, 112, 32, 111, 118, 101, 114, 32, 114, 111, 116, 32, 110, 105, 112, 32, 116, 117, 99, 107, 32, 63, 100, 117, 112, 32, 50, 100, 117, 112, 32, 50, 100, 114, 111, 112, 32, 50, 115, 119, 97, 112, 32, 50, 111, 118, 101, 114, 32, 112, 105, 99, 107, 32, 114, 111, 108, 108, 32, 100, 101, 112, 116, 104, 10, 9, 9, 115, 62, 100, 32, 100, 43, 32, 100, 45, 32, 100, 110, 101, 103, 97, 116, 101, 32, 100, 97, 98, 115, 32, 100, 60, 32, 100, 117, 60, 32, 100, 61, 32, 100, 50, 42, 32, 100, 50, 47, 32, 109, 42, 32, 117, 109, 42, 32, 117, 109, 47, 109, 111, 100, 32, 102, 109, 47, 109, 111, 100, 32, 115, 109, 47, 114, 101, 109, 32, 42, 47, 32, 42, 47, 109, 111, 100, 32, 47, 109, 111, 100, 10, 9, 9, 102, 110, 101, 103, 97, 116, 101, 32, 102, 97, 98, 115, 32, 102, 43, 32, 102, 45, 32, 102, 42, 32, 102, 47, 32, 102, 109, 105, 110, 32, 102, 109, 97, 120, 32, 102, 60, 32, 102, 61, 32, 115, 62, 102, 32, 102, 62, 115, 10, 9, 9, 64, 32, 33, 32, 99, 64, 32, 99, 33, 32, 43, 33, 32, 50, 64, 32, 50, 33, 32, 102, 105, 108, 108, 32, 109, 111, 118, 101, 32, 104, 101, 114, 101, 32, 97, 108, 108, 111, 116, 32, 44, 32, 99, 44, 32, 97, 108, 105, 103, 110, 32, 97, 108, 105, 103, 110, 101, 100, 32, 99, 101, 108, 108, 115, 32, 99, 111, 117, 110, 116, 10, 9, 9, 101, 109, 105, 116, 32, 46, 32, 117, 46, 32, 100, 46, 32, 102, 46, 32, 99, 114, 32, 115, 112, 97, 99, 101, 32, 115, 112, 97, 99, 101, 115, 32, 116, 121, 112, 101, 32, 46, 115, 10, 9, 9, 100, 101, 99, 105, 109, 97, 108, 32, 104, 101, 120, 32, 60, 35, 32, 35, 32, 35, 115, 32, 104, 111, 108, 100, 32, 115, 105, 103, 110, 32, 35, 62]
def ctlT : List UInt8 := [10, 9, 9, 62, 114, 32, 114, 62, 32, 114, 64, 32, 105, 32, 106, 32, 117, 110, 108, 111, 111, 112, 10, 9, 9, 101, 120, 101, 99, 117, 116, 101, 32, 99, 97, 116, 99, 104, 32, 116, 104, 114, 111, 119]
def flowT : List UInt8 := [10, 9, 9, 105, 102, 32, 101, 108, 115, 101, 32, 116, 104, 101, 110, 32, 98, 101, 103, 105, 110, 32, 119, 104, 105, 108, 101, 32, 114, 101, 112, 101, 97, 116, 32, 117, 110, 116, 105, 108, 32, 97, 103, 97, 105, 110, 10, 9, 9, 100, 111, 32, 63, 100, 111, 32, 108, 111, 111, 112, 32, 43, 108, 111, 111, 112, 32, 108, 101, 97, 118, 101, 32, 99, 97, 115, 101, 32, 111, 102, 32, 101, 110, 100, 111, 102, 32, 101, 110, 100, 99, 97, 115, 101]
def hostT : List UInt8 := [10, 9, 9, 58, 32, 58, 110, 111, 110, 97, 109, 101, 32, 59, 32, 101, 120, 105, 116, 32, 114, 101, 99, 117, 114, 115, 101, 32, 91, 32, 93, 32, 108, 105, 116, 101, 114, 97, 108, 32, 99, 111, 109, 112, 105, 108, 101, 44, 32, 112, 111, 115, 116, 112, 111, 110, 101, 32, 39, 32, 91, 39, 93, 32, 105, 109, 109, 101, 100, 105, 97, 116, 101, 10, 9, 9, 99, 114, 101, 97, 116, 101, 32, 100, 111, 101, 115, 62, 32, 99, 111, 110, 115, 116, 97, 110, 116, 32, 118, 97, 114, 105, 97, 98, 108, 101, 32, 118, 97, 108, 117, 101, 32, 116, 111, 32, 100, 101, 102, 101, 114, 32, 105, 115, 32, 99, 104, 97, 114, 32, 91, 99, 104, 97, 114, 93, 10, 9, 9, 40, 32, 92, 32, 115, 34, 32, 115, 92, 34, 32, 46, 34, 32, 101, 118, 97, 108, 117, 97, 116, 101, 32, 112, 97, 114, 115, 101, 32, 112, 97, 114, 115, 101, 45, 110, 97, 109, 101, 32, 115, 97, 118, 101, 45, 105, 110, 112, 117, 116, 32, 114, 101, 115, 116, 111, 114, 101, 45, 105, 110, 112, 117, 116, 32, 123, 58, 10, 9, 9, 119, 111, 114, 100, 108, 105, 115, 116, 32, 115, 101, 116, 45, 99, 117, 114, 114, 101, 110, 116, 32, 115, 101, 116, 45, 111, 114, 100, 101, 114, 32, 103, 101, 116, 45, 111, 114, 100, 101, 114, 32, 109, 97, 114, 107, 101, 114, 32, 115, 101, 116, 45, 114, 101, 99, 111, 103, 110, 105, 122, 101, 114, 115, 32, 103, 101, 116, 45, 114, 101, 99, 111, 103, 110, 105, 122, 101, 114, 115, 10, 9, 9, 107, 101, 121, 32, 98, 121, 101, 32, 40, 100, 111, 101, 115, 62, 41, 32, 40, 116, 111, 41, 32, 40, 105, 115, 41, 32, 40, 109, 97, 114, 107, 101, 114, 41]
def ctlOT : List UInt8 := [62, 114, 32, 114, 62, 32, 114, 64, 32, 105, 32, 106, 32, 117, 110, 108, 111, 111, 112]
def hostWT : List UInt8 := [10, 9, 9, 59, 32, 101, 120, 105, 116, 32, 114, 101, 99, 117, 114, 115, 101, 32, 91, 32, 108, 105, 116, 101, 114, 97, 108, 32, 112, 111, 115, 116, 112, 111, 110, 101, 32, 91, 39, 93, 32, 100, 111, 101, 115, 62, 32, 116, 111, 32, 105, 115, 32, 91, 99, 104, 97, 114, 93, 10, 9, 9, 40, 32, 92, 32, 115, 34, 32, 115, 92, 34, 32, 46, 34, 32, 123, 58]
def hostOT : List UInt8 := [10, 9, 9, 59, 32, 101, 120, 105, 116, 32, 114, 101, 99, 117, 114, 115, 101, 32, 108, 105, 116, 101, 114, 97, 108, 32, 112, 111, 115, 116, 112, 111, 110, 101, 32, 91, 39, 93, 32, 100, 111, 101, 115, 62, 32, 91, 99, 104, 97, 114, 93, 10, 9, 9, 123, 58, 32, 40, 100, 111, 101, 115, 62, 41, 32, 40, 116, 111, 41, 32, 40, 105, 115, 41, 32, 40, 109, 97, 114, 107, 101, 114, 41]
def primN : List (List UInt8) := [[110, 101, 103, 97, 116, 101], [97, 98, 115], [105, 110, 118, 101, 114, 116], [49, 43], [49, 45], [50, 42], [50, 47], [48, 61], [48, 60], [48, 60, 62], [43], [45], [42], [47], [109, 111, 100], [97, 110, 100], [111, 114], [120, 111, 114], [108, 115, 104, 105, 102, 116], [114, 115, 104, 105, 102, 116], [61], [60, 62], [60], [62], [117, 60], [109, 105, 110], [109, 97, 120], [100, 117, 112], [100, 114, 111, 112], [115, 119, 97, 112], [111, 118, 101, 114], [114, 111, 116], [110, 105, 112], [116, 117, 99, 107], [63, 100, 117, 112], [50, 100, 117, 112], [50, 100, 114, 111, 112], [50, 115, 119, 97, 112], [50, 111, 118, 101, 114], [112, 105, 99, 107], [114, 111, 108, 108], [100, 101, 112, 116, 104], [115, 62, 100], [100, 43], [100, 45], [100, 110, 101, 103, 97, 116, 101], [100, 97, 98, 115], [100, 60], [100, 117, 60], [100, 61], [100, 50, 42], [100, 50, 47], [109, 42], [117, 109, 42], [117, 109, 47, 109, 111, 100], [102, 109, 47, 109, 111, 100], [115, 109, 47, 114, 101, 109], [42, 47], [42, 47, 109, 111, 100], [47, 109, 111, 100], [102, 110, 101, 103, 97, 116, 101], [102, 97, 98, 115], [102, 43], [102, 45], [102, 42], [102, 47], [102, 109, 105, 110], [102, 109, 97, 120], [102, 60], [102, 61], [115, 62, 102], [102, 62, 115], [64], [33], [99, 64], [99, 33], [43, 33], [50, 64], [50, 33], [102, 105, 108, 108], [109, 111, 118, 101], [104, 101, 114, 101], [97, 108, 108, 111, 116], [44], [99, 44], [97, 108, 105, 103, 110], [97, 108, 105, 103, 110, 101, 100], [99, 101, 108, 108, 115], [99, 111, 117, 110, 116], [101, 109, 105, 116], [46], [117, 46], [100, 46], [102, 46], [99, 114], [115, 112, 97, 99, 101], [115, 112, 97, 99, 101, 115], [116, 121, 112, 101], [46, 115], [100, 101, 99, 105, 109, 97, 108], [104, 101, 120], [60, 35], [35], [35, 115], [104, 111, 108, 100], [115, 105, 103, 110], [35, 62]]
def ctlN : List (List UInt8) := [[62, 114], [114, 62], [114, 64], [105], [106], [117, 110, 108, 111, 111, 112], [101, 120, 101, 99, 117, 116, 101], [99, 97, 116, 99, 104], [116, 104, 114, 111, 119]]
def flowN : List (List UInt8) := [[105, 102], [101, 108, 115, 101], [116, 104, 101, 110], [98, 101, 103, 105, 110], [119, 104, 105, 108, 101], [114, 101, 112, 101, 97, 116], [117, 110, 116, 105, 108], [97, 103, 97, 105, 110], [100, 111], [63, 100, 111], [108, 111, 111, 112], [43, 108, 111, 111, 112], [108, 101, 97, 118, 101], [99, 97, 115, 101], [111, 102], [101, 110, 100, 111, 102], [101, 110, 100, 99, 97, 115, 101]]
def hostN : List (List UInt8) := [[58], [58, 110, 111, 110, 97, 109, 101], [59], [101, 120, 105, 116], [114, 101, 99, 117, 114, 115, 101], [91], [93], [108, 105, 116, 101, 114, 97, 108], [99, 111, 109, 112, 105, 108, 101, 44], [112, 111, 115, 116, 112, 111, 110, 101], [39], [91, 39, 93], [105, 109, 109, 101, 100, 105, 97, 116, 101], [99, 114, 101, 97, 116, 101], [100, 111, 101, 115, 62], [99, 111, 110, 115, 116, 97, 110, 116], [118, 97, 114, 105, 97, 98, 108, 101], [118, 97, 108, 117, 101], [116, 111], [100, 101, 102, 101, 114], [105, 115], [99, 104, 97, 114], [91, 99, 104, 97, 114, 93], [40], [92], [115, 34], [115, 92, 34], [46, 34], [101, 118, 97, 108, 117, 97, 116, 101], [112, 97, 114, 115, 101], [112, 97, 114, 115, 101, 45, 110, 97, 109, 101], [115, 97, 118, 101, 45, 105, 110, 112, 117, 116], [114, 101, 115, 116, 111, 114, 101, 45, 105, 110, 112, 117, 116], [123, 58], [119, 111, 114, 100, 108, 105, 115, 116], [115, 101, 116, 45, 99, 117, 114, 114, 101, 110, 116], [115, 101, 116, 45, 111, 114, 100, 101, 114], [103, 101, 116, 45, 111, 114, 100, 101, 114], [109, 97, 114, 107, 101, 114], [115, 101, 116, 45, 114, 101, 99, 111, 103, 110, 105, 122, 101, 114, 115], [103, 101, 116, 45, 114, 101, 99, 111, 103, 110, 105, 122, 101, 114, 115], [107, 101, 121], [98, 121, 101], [40, 100, 111, 101, 115, 62, 41], [40, 116, 111, 41], [40, 105, 115, 41], [40, 109, 97, 114, 107, 101, 114, 41]]
def ctlON : List (List UInt8) := [[62, 114], [114, 62], [114, 64], [105], [106], [117, 110, 108, 111, 111, 112]]
def hostWN : List (List UInt8) := [[59], [101, 120, 105, 116], [114, 101, 99, 117, 114, 115, 101], [91], [108, 105, 116, 101, 114, 97, 108], [112, 111, 115, 116, 112, 111, 110, 101], [91, 39, 93], [100, 111, 101, 115, 62], [116, 111], [105, 115], [91, 99, 104, 97, 114, 93], [40], [92], [115, 34], [115, 92, 34], [46, 34], [123, 58]]
def hostON : List (List UInt8) := [[59], [101, 120, 105, 116], [114, 101, 99, 117, 114, 115, 101], [108, 105, 116, 101, 114, 97, 108], [112, 111, 115, 116, 112, 111, 110, 101], [91, 39, 93], [100, 111, 101, 115, 62], [91, 99, 104, 97, 114, 93], [123, 58], [40, 100, 111, 101, 115, 62, 41], [40, 116, 111, 41], [40, 105, 115, 41], [40, 109, 97, 114, 107, 101, 114, 41]]
def splB (L : List UInt8) : Nat → List (List UInt8) → Bool
  | i, [] => (wordL L i).1 == []
  | i, s :: r => !s.isEmpty && ((wordL L i).1 == s && splB L (wordL L i).2 r)
theorem spl_prim : splB primT 0 primN = true := by decide +kernel
theorem spl_ctl : splB ctlT 0 ctlN = true := by decide +kernel
theorem spl_flow : splB flowT 0 flowN = true := by decide +kernel
theorem spl_host : splB hostT 0 hostN = true := by decide +kernel
theorem spl_ctlO : splB ctlOT 0 ctlON = true := by decide +kernel
theorem spl_hostW : splB hostWT 0 hostWN = true := by decide +kernel
theorem spl_hostO : splB hostOT 0 hostON = true := by decide +kernel
def namesK (k : Int) : List (List UInt8) := if k = 1 then primN else if k = 2 then ctlN else if k = 3 then flowN else if k = 4 then hostN else []
def nowK (k : Int) : List (List UInt8) := if k = 3 then flowN else if k = 4 then hostWN else []
def onlyK (k : Int) : List (List UInt8) := if k = 2 then ctlON else if k = 3 then flowN else if k = 4 then hostON else []
structure En where
  s : List UInt8
  k : Int
  n : Nat
  now : Bool
  only : Bool
def entK (k : Int) (i : Nat) (s : List UInt8) : En := ⟨s, k, i + 1, decide (s ∈ nowK k), decide (s ∈ onlyK k)⟩
def tabF (k : Int) : Nat → List (List UInt8) → List En
  | _, [] => []
  | i, s :: r => entK k i s :: tabF k (i + 1) r
def tabK (k : Int) : List En := tabF k 0 (namesK k)
def tab : List En := tabK 1 ++ (tabK 2 ++ (tabK 3 ++ tabK 4))
theorem tabF_len (k : Int) : ∀ (L : List (List UInt8)) (i : Nat), (tabF k i L).length = L.length
  | [], i => rfl
  | s :: r, i => by simp [tabF, tabF_len k r (i + 1)]
theorem tabF_app (k : Int) : ∀ (A B : List (List UInt8)) (i : Nat), tabF k i (A ++ B) = tabF k i A ++ tabF k (i + A.length) B
  | [], B, i => rfl
  | s :: r, B, i => by
    simp only [List.cons_append, tabF, List.length_cons]
    rw [tabF_app k r B (i + 1), show i + 1 + r.length = i + (r.length + 1) by omega]
theorem tabF_take (k : Int) (L : List (List UInt8)) (j : Nat) (h : j < L.length) : tabF k 0 (L.take (j + 1)) = tabF k 0 (L.take j) ++ [entK k j L[j]] := by
  rw [List.take_succ_eq_append_getElem h, tabF_app]
  simp [tabF]
  congr 1
  omega
end Go.Proofs.YtifnkmddinoneaaGreatDoor.L12
namespace Go.Proofs.YtifnkmddinoneaaGreatDoor
open Go.RowKit
set_option linter.unusedVariables false

/-- The low and the high cell of an integer (modulo 2 to the 128). -/
def lo (n : Int) : Int := wrap64 n
def hi (n : Int) : Int := wrap64 (n / 18446744073709551616)
def U (a : Int) : Int := a % 18446744073709551616
def V (l h : Int) : Int := h * 18446744073709551616 + U l
def W (l h : Int) : Int := U h * 18446744073709551616 + U l
theorem W_bd (l h : Int) : 0 ≤ W l h ∧ W l h ≤ 340282366920938463463374607431768211455 := by unfold W U; omega
theorem U_bd (a : Int) : 0 ≤ U a ∧ U a ≤ 18446744073709551615 := by unfold U; omega
end Go.Proofs.YtifnkmddinoneaaGreatDoor
namespace Go.Proofs.YtifnkmddinoneaaGreatDoor
open Go.RowKit
set_option linter.unusedVariables false

set_option maxRecDepth 100000 in
@[go_sem] theorem eq_pair (a b c d : Int) (w : World) : (Op.equalIn 10000 183 (.agg #[.int .i64 a, .int .i64 b]) (.agg #[.int .i64 c, .int .i64 d])).run Tryz.prog w = .ok (a == c && b == d) w := by
  have u3 := Tryz.underlying33
  have a3 := Tryz.isAgg33
  have z3 := Tryz.sizeOf33
  have hS : Tryz.prog.underlying 183 = some (.struct (Tryz.prog.fieldsOf 183)) := by kernel_rfl
  have hp : Tryz.prog.stoodInHeld 183 = false := by kernel_rfl
  rw [show (10000 : Nat) = 9999 + 1 from rfl, run_equalIn_agg w 9999 183 _ _ hS hp]
  simp only [Program.fieldsOf, Tryz.underlying183]
  go_simp
  by_cases h1 : a = c <;> by_cases h2 : b = d <;> simp [h1, h2]
@[go_sem ↓] theorem run_pair_eql (a b c d : Int) (w : World) : (binOp .eql 183 (.agg #[.int .i64 a, .int .i64 b]) (.agg #[.int .i64 c, .int .i64 d])).run Tryz.prog w = .ok (.bool (a == c && b == d)) w := by
  rw [run_eql_struct, eq_pair]; rfl
@[go_sem ↓] theorem run_pair_neq (a b c d : Int) (w : World) : (binOp .neq 183 (.agg #[.int .i64 a, .int .i64 b]) (.agg #[.int .i64 c, .int .i64 d])).run Tryz.prog w = .ok (.bool (!(a == c && b == d))) w := by
  rw [run_neq_struct, eq_pair]; rfl
@[go_sem ↓] theorem guard_pair (op : BinOp) (x y : Operand) (xs ys : Array Value) (w : World) : (eqGuard op 183 x y (.agg xs) (.agg ys)).run Tryz.prog w = .ok () w :=
  run_eqGuard_agg w op 183 x y xs ys (by kernel_rfl)
end Go.Proofs.YtifnkmddinoneaaGreatDoor
