/- Layer 9: the document's dictionary (package rhytonref09) among the call's own blocks. Plain words on worlds and lists. No condition. -/
import Derived.Test.YtldnpppbnakcoaaS6A
import Derived.Test.YtldnpppbnakcoaaText
import Derived.Maps.AppendAt
namespace Go.Proofs.Ytldnpppbnakcoaa
open Go.RowKit
set_option linter.unusedVariables false

abbrev PtD (p : Nat) : Value := .pointer (some ⟨p, 0, none⟩)
/-- A word: its name, its number, whether it is done at once, its list. -/
structure We where
  n : List UInt8
  x : Int
  now : Bool
  l : Int
def flatW (a : We) : List Value := [.string (str a.n), .int .i64 a.x, .bool a.now, .int .i64 a.l]
def flatsW (L : List We) : List Value := L.flatMap flatW
theorem flatsW_len (L : List We) : (flatsW L).length = L.length * 4 := by
  induction L with
  | nil => rfl
  | cons x r ih => simp only [flatsW, List.flatMap_cons, List.length_append] at ih ⊢; rw [ih]; simp [flatW]; omega
theorem flatsW_app (A B : List We) : flatsW (A ++ B) = flatsW A ++ flatsW B := by simp [flatsW]
theorem flatsW_one (x : We) : flatsW [x] = flatW x := by simp [flatsW]
theorem flatsW_mid (B : List We) (x : We) (C : List We) (k : Nat) (hk : k < 4) : (flatsW (B ++ x :: C))[B.length * 4 + k]? = (flatW x)[k]? := by
  have e : flatsW (B ++ x :: C) = flatsW B ++ (flatW x ++ flatsW C) := by simp [flatsW]
  rw [e, List.getElem?_append_right (by rw [flatsW_len]; omega), flatsW_len, Nat.add_sub_cancel_left, List.getElem?_append_left (by simp [flatW]; omega)]
theorem flatsW_get (L : List We) (j k : Nat) (hj : j < L.length) (hk : k < 4) : (flatsW L)[j * 4 + k]? = (flatW L[j])[k]? := by
  have h1 : L = L.take j ++ L[j] :: L.drop (j + 1) := by rw [← List.drop_eq_getElem_cons hj, List.take_append_drop]
  have hl : (L.take j).length = j := by rw [List.length_take]; omega
  have := flatsW_mid (L.take j) L[j] (L.drop (j + 1)) k hk
  rw [← h1, hl] at this
  exact this
theorem flatsW_take (L : List We) (n : Nat) : (flatsW L).take (n * 4) = flatsW (L.take n) := by
  induction L generalizing n with
  | nil => simp [flatsW]
  | cons x r ih =>
    cases n with
    | zero => simp [flatsW]
    | succ n =>
      have e : flatsW (x :: r) = flatW x ++ flatsW r := by simp [flatsW]
      have e2 : flatsW (x :: r.take n) = flatW x ++ flatsW (r.take n) := by simp [flatsW]
      rw [e, List.take_succ_cons, e2, ← ih, List.take_append]
      have h3 : (flatW x).length = 4 := rfl
      rw [h3, List.take_of_length_le (by rw [h3]; omega), show (n + 1) * 4 - 4 = n * 4 by omega]
theorem flatsW_cells (L : List We) : ∀ u ∈ flatsW L, u.oneCell' = true := fun u hu => by
  obtain ⟨x, _, hx⟩ := List.mem_flatMap.1 hu
  simp [flatW] at hx
  rcases hx with rfl | rfl | rfl | rfl <;> rfl
theorem flatsW_now (B : List We) (x : We) : (flatsW (B ++ [x])).set (B.length * 4 + 2) (.bool true) = flatsW (B ++ [{ x with now := true }]) := by
  rw [flatsW_app, flatsW_app, List.set_append_right _ _ (by rw [flatsW_len]; omega), flatsW_len, Nat.add_sub_cancel_left, flatsW_one, flatsW_one]
  rfl
def intsV (Y : List Int) : List Value := Y.map (Value.int .i64)
theorem intsV_len (Y : List Int) : (intsV Y).length = Y.length := by simp [intsV]
/-- A dictionary: its words, how many lists there are, the order, the current list. -/
structure Di where
  W : List We
  k : Nat
  O : List Int
  c : Int
/-- Block q of w is the document's dictionary D, whose words lie in the row v and whose order lies in the row u. -/
structure RdV (w : World) (q : Nat) (v u : Value) (D : Di) : Prop where
  c0 : w.cell? ⟨q, 0, none⟩ = some v
  c1 : w.cell? ⟨q, 1, none⟩ = some (.int .i64 (D.k : Int))
  c2 : w.cell? ⟨q, 2, none⟩ = some u
  c3 : w.cell? ⟨q, 3, none⟩ = some (.int .i64 D.c)
  f : ∀ i, w.frozen? ⟨q, i, none⟩ = false
  lp : q < w.heap.size
  rv : w.ownsRow 0 76 4 v D.W.length (flatsW D.W)
  ru : w.ownsRow 0 3 1 u D.O.length (intsV D.O)
  sv : v.ownBlock ≠ some q
  su : u.ownBlock ≠ some q
  suv : ∀ g, u.ownBlock = some g → v.ownBlock ≠ some g
  names : ∀ a ∈ D.W, a.n.length ≤ 31
  dw : D.W.length ≤ 2000
  do_ : D.O.length ≤ 8
  dk : D.k ≤ 8
/-- The blocks that are its own. -/
def blocksD (q : Nat) (v u : Value) : List Nat := q :: (v.ownBlock.toList ++ u.ownBlock.toList)
/-- The same, with the blocks T that are its own. -/
def Rd9 (w : World) (q : Nat) (T : List Nat) (D : Di) : Prop := ∃ v u, RdV w q v u D ∧ T = blocksD q v u
theorem RdV.lt {w : World} {q : Nat} {v u : Value} {D : Di} (h : RdV w q v u D) : ∀ x ∈ blocksD q v u, x < w.heap.size := fun x hx => by
  rcases List.mem_cons.1 hx with rfl | hx
  · exact h.lp
  · rcases List.mem_append.1 hx with hx | hx
    · exact (h.rv.lt x (by simpa using hx)).2
    · exact (h.ru.lt x (by simpa using hx)).2
theorem Rd9.lt {w : World} {q : Nat} {T : List Nat} {D : Di} (h : Rd9 w q T D) : ∀ x ∈ T, x < w.heap.size := by
  obtain ⟨v, u, h, rfl⟩ := h
  exact h.lt
theorem rowD_mod {w w' : World} {S : List Nat} {e : TypeId} {k : Nat} {v : Value} {n : Nat} {xs : List Value} (h : w.ownsRow 0 e k v n xs) (m : Mod S w w') (hS : ∀ g, v.ownBlock = some g → g ∉ S) : w'.ownsRow 0 e k v n xs := by
  refine ⟨h.1, h.2.elim Or.inl fun ⟨g, cap, cur, h1, h2, h3, h4⟩ => Or.inr ⟨g, cap, cur, h1, h2, ?_, h4⟩⟩
  subst h1
  rw [m.block g (Array.getElem?_eq_some_iff.1 h3).1 (hS g rfl)]
  exact h3
theorem RdV.mod {w w' : World} {S : List Nat} {q : Nat} {v u : Value} {D : Di} (h : RdV w q v u D) (m : Mod S w w') (hS : ∀ x ∈ blocksD q v u, x ∉ S) : RdV w' q v u D :=
  have hp : q ∉ S := hS q (by simp [blocksD])
  ⟨m.cell hp h.c0, m.cell hp h.c1, m.cell hp h.c2, m.cell hp h.c3, fun i => (m.frozen hp h.lp).trans (h.f i), Nat.lt_of_lt_of_le h.lp m.size, rowD_mod h.rv m fun g hg => hS g (by simp [blocksD, hg]), rowD_mod h.ru m fun g hg => hS g (by simp [blocksD, hg]), h.sv, h.su, h.suv, h.names, h.dw, h.do_, h.dk⟩
theorem Rd9.mod {w w' : World} {S T : List Nat} {q : Nat} {D : Di} (h : Rd9 w q T D) (m : Mod S w w') (hS : ∀ x ∈ T, x ∉ S) : Rd9 w' q T D := by
  obtain ⟨v, u, h, rfl⟩ := h
  exact ⟨v, u, h.mod m hS, rfl⟩
theorem Rd9.far {w w' : World} {T : List Nat} {q : Nat} {D : Di} (h : Rd9 w q T D) (m : Mod [] w w') : Rd9 w' q T D := h.mod m (by simp)
/-- From w to w' blocks of S turned, and new ones; what was S is S' then. -/
def TurnD (S S' : List Nat) (w w' : World) : Prop := Mod S w w' ∧ ∀ x ∈ S', x ∈ S ∨ w.heap.size ≤ x
theorem TurnD.refl (S : List Nat) (w : World) : TurnD S S w w := ⟨Mod.refl S w, fun x h => Or.inl h⟩
theorem TurnD.of {S : List Nat} {w w' : World} (h : Mod S w w') : TurnD S S w w' := ⟨h, fun x h => Or.inl h⟩
theorem TurnD.trans {S T U : List Nat} {a b c : World} (h : TurnD S T a b) (k : TurnD T U b c) : TurnD S U a c :=
  ⟨h.1.then k.1 h.2, fun x hx => (k.2 x hx).elim (h.2 x) fun hl => Or.inr (Nat.le_trans h.1.size hl)⟩
theorem TurnD.apart {S T : List Nat} {a b : World} (h : TurnD S T a b) {U : List Nat} (hU : ∀ x ∈ U, x < a.heap.size) (hd : ∀ x ∈ U, x ∉ S) : ∀ x ∈ U, x ∉ T := fun x hx ht => (h.2 x ht).elim (hd x hx) fun hl => by have := hU x hx; omega
theorem rowD_open {w : World} {e : TypeId} {k : Nat} {v : Value} {n : Nat} {xs : List Value} (h : w.ownsRow 0 e k v n xs) : ∃ A cap, v = .slice A n cap ∧ n ≤ cap ∧ ∀ j, j < n * k → ∃ b, A = some ⟨b, 0, none⟩ ∧ w.cell? ⟨b, j, none⟩ = xs[j]? := by
  rcases h.2 with ⟨rfl, rfl⟩ | ⟨g, cap, cur, rfl, _, _, hc, _⟩
  · exact ⟨none, 0, rfl, Nat.le_refl _, fun j hj => by omega⟩
  · exact ⟨_, _, rfl, hc, fun j hj => ⟨g, rfl, h.cellAt j hj⟩⟩
/-- A word of the dictionary, where it lies. -/
structure WordAt (w : World) (b o : Nat) (a : We) : Prop where
  c0 : w.cell? ⟨b, o, none⟩ = some (.string (str a.n))
  c1 : w.cell? ⟨b, o + 1, none⟩ = some (.int .i64 a.x)
  c2 : w.cell? ⟨b, o + 2, none⟩ = some (.bool a.now)
  c3 : w.cell? ⟨b, o + 3, none⟩ = some (.int .i64 a.l)
theorem WordAt.far {w w' : World} {b o : Nat} {a : We} (h : WordAt w b o a) (m : Mod [] w w') : WordAt w' b o a := ⟨m.cell (by simp) h.c0, m.cell (by simp) h.c1, m.cell (by simp) h.c2, m.cell (by simp) h.c3⟩
theorem RdV.word {w : World} {q : Nat} {v u : Value} {D : Di} (h : RdV w q v u D) (j : Nat) (hj : j < D.W.length) : ∃ b cap, v = .slice (some ⟨b, 0, none⟩) D.W.length cap ∧ WordAt w b (j * 4) D.W[j] := by
  obtain ⟨A, cap, hv, _, hc⟩ := rowD_open h.rv
  obtain ⟨b, hb, _⟩ := hc 0 (by omega)
  subst hb
  have get : ∀ k, k < 4 → w.cell? ⟨b, j * 4 + k, none⟩ = (flatW D.W[j])[k]? := fun k hk => by
    obtain ⟨b', hb', hcc⟩ := hc (j * 4 + k) (by omega)
    injection hb' with hb'
    injection hb' with hb' _
    subst hb'
    rw [hcc, flatsW_get D.W j k hj hk]
  exact ⟨b, cap, hv, get 0 (by omega), get 1 (by omega), get 2 (by omega), get 3 (by omega)⟩
theorem RdV.ord {w : World} {q : Nat} {v u : Value} {D : Di} (h : RdV w q v u D) (j : Nat) (hj : j < D.O.length) : ∃ b cap, u = .slice (some ⟨b, 0, none⟩) D.O.length cap ∧ w.cell? ⟨b, j, none⟩ = some (.int .i64 D.O[j]) := by
  obtain ⟨A, cap, hv, _, hc⟩ := rowD_open h.ru
  obtain ⟨b, hb, hcc⟩ := hc j (by omega)
  subst hb
  exact ⟨b, cap, hv, by rw [hcc]; simp [intsV, hj]⟩
end Go.Proofs.Ytldnpppbnakcoaa
