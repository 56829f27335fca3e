/- Layer 9: the program's dictionary (package dict) among the call's own blocks. Plain words on worlds and lists. No condition. -/
import Derived.Test.YtldnpppbnakcoaaD9H
import Derived.Test.YtldnpppbnakcoaaMp
namespace Go.Proofs.Ytldnpppbnakcoaa
open Go.RowKit
set_option linter.unusedVariables false

/-- Block b of w is a word of the program's; the one before it in its list is pr. -/
structure WoAt (w : World) (b : Nat) (a : We) (pr : Option Nat) : Prop where
  c0 : w.cell? ⟨b, 0, none⟩ = some (.string (str a.n))
  c1 : w.cell? ⟨b, 1, none⟩ = some (.int .i64 a.x)
  c2 : w.cell? ⟨b, 2, none⟩ = some (.bool a.now)
  c3 : w.cell? ⟨b, 3, none⟩ = some (.int .i64 a.l)
  c4 : w.cell? ⟨b, 4, none⟩ = some (ptO pr)
  f : ∀ i, w.frozen? ⟨b, i, none⟩ = false
  lt : b < w.heap.size
theorem WoAt.mod {w w' : World} {S : List Nat} {b : Nat} {a : We} {pr : Option Nat} (h : WoAt w b a pr) (m : Mod S w w') (hb : b ∉ S) : WoAt w' b a pr :=
  ⟨m.cell hb h.c0, m.cell hb h.c1, m.cell hb h.c2, m.cell hb h.c3, m.cell hb h.c4, fun i => (m.frozen hb h.lt).trans (h.f i), Nat.lt_of_lt_of_le h.lt m.size⟩
/-- The block of the last word of a list; the words stand the last one first. -/
def headZ (Z : List (Nat × We)) (l : Int) : Option Nat := (Z.find? fun z => z.2.l == l).map (·.1)
theorem headZ_nil (l : Int) : headZ [] l = none := rfl
theorem headZ_cons (z : Nat × We) (r : List (Nat × We)) (l : Int) : headZ (z :: r) l = if z.2.l = l then some z.1 else headZ r l := by
  unfold headZ
  by_cases h : z.2.l = l
  · simp [h]
  · have : (z.2.l == l) = false := by rw [beq_eq_false_iff_ne]; exact h
    simp [h, this]
theorem headZ_some {R : List (Nat × We)} {l : Int} {q : Nat} (h : headZ R l = some q) : ∃ pre z r, R = pre ++ z :: r ∧ z.1 = q ∧ z.2.l = l ∧ ∀ y ∈ pre, y.2.l ≠ l := by
  induction R with
  | nil => cases h
  | cons z r ih =>
    rw [headZ_cons] at h
    by_cases hz : z.2.l = l
    · rw [if_pos hz] at h
      injection h with h
      exact ⟨[], z, r, rfl, h, hz, by simp⟩
    · rw [if_neg hz] at h
      obtain ⟨pre, y, r', rfl, h1, h2, h3⟩ := ih h
      exact ⟨z :: pre, y, r', rfl, h1, h2, fun x hx => by
        rcases List.mem_cons.1 hx with rfl | hx
        · exact hz
        · exact h3 x hx⟩
theorem headZ_none {R : List (Nat × We)} {l : Int} (h : headZ R l = none) : ∀ y ∈ R, y.2.l ≠ l := by
  unfold headZ at h
  rw [Option.map_eq_none_iff, List.find?_eq_none] at h
  intro y hy e
  exact h y hy (by simp [e])
/-- The words Z, the last one first, lie in their blocks. -/
def Ws (w : World) : List (Nat × We) → Prop
  | [] => True
  | z :: r => WoAt w z.1 z.2 (headZ r z.2.l) ∧ Ws w r
theorem Ws.mod {w w' : World} {S : List Nat} (m : Mod S w w') : ∀ {Z : List (Nat × We)}, Ws w Z → (∀ z ∈ Z, z.1 ∉ S) → Ws w' Z
  | [], _, _ => trivial
  | z :: r, h, hS => ⟨h.1.mod m (hS z (by simp)), Ws.mod m h.2 fun y hy => hS y (by simp [hy])⟩
theorem Ws.app {w : World} : ∀ {pre r : List (Nat × We)} {z : Nat × We}, Ws w (pre ++ z :: r) → WoAt w z.1 z.2 (headZ r z.2.l) ∧ Ws w r
  | [], _, _, h => h
  | y :: pre, _, _, h => Ws.app (pre := pre) h.2
theorem Ws.lt {w : World} : ∀ {Z : List (Nat × We)}, Ws w Z → ∀ z ∈ Z, z.1 < w.heap.size
  | z :: r, h, y, hy => by
    rcases List.mem_cons.1 hy with rfl | hy
    · exact h.1.lt
    · exact Ws.lt h.2 y hy
theorem Ws.drop {w : World} : ∀ (n : Nat) {Z : List (Nat × We)}, Ws w Z → Ws w (Z.drop n)
  | 0, _, h => h
  | _ + 1, [], h => h
  | n + 1, _ :: _, h => Ws.drop n h.2
/-- How many words stand from block q on. -/
def rankZ : List (Nat × We) → Nat → Nat
  | [], _ => 0
  | z :: r, q => if z.1 = q then r.length + 1 else rankZ r q
theorem rankZ_at {pre r : List (Nat × We)} {z : Nat × We} (h : ((pre ++ z :: r).map (·.1)).Nodup) : rankZ (pre ++ z :: r) z.1 = r.length + 1 := by
  induction pre with
  | nil => simp [rankZ]
  | cons y pre ih =>
    rw [List.cons_append, List.map_cons, List.nodup_cons] at h
    have hne : y.1 ≠ z.1 := fun e => h.1 (by rw [e]; simp)
    show (if y.1 = z.1 then _ else rankZ (pre ++ z :: r) z.1) = _
    rw [if_neg hne]
    exact ih h.2
def rankV (Z : List (Nat × We)) : Value → Nat
  | .pointer (some a) => rankZ Z a.block
  | _ => 0
theorem rankV_head {Z pre r : List (Nat × We)} {z : Nat × We} (h : (Z.map (·.1)).Nodup) (e : Z = pre ++ z :: r) (l : Int) : rankV Z (ptO (headZ r l)) < rankV Z (PtW z.1) := by
  have h1 : rankV Z (PtW z.1) = r.length + 1 := by subst e; exact rankZ_at h
  rw [h1]
  cases hr : headZ r l with
  | none => exact Nat.succ_pos _
  | some q =>
    obtain ⟨pre', y, r', rfl, rfl, _, _⟩ := headZ_some hr
    have e2 : Z = (pre ++ z :: pre') ++ y :: r' := by rw [e]; simp
    have h2 : rankV Z (ptO (some y.1)) = r'.length + 1 := by
      have h' := h
      rw [e2] at h'
      show rankZ Z y.1 = _
      rw [e2]
      exact rankZ_at h'
    rw [h2]
    simp
    omega
/-- The last word of a list that has this name. -/
def inZ (Z : List (Nat × We)) (l : Int) (n : List UInt8) : Option We := (Z.find? fun z => isW l n z.2).map (·.2)
theorem inZ_app {pre R : List (Nat × We)} {l : Int} {n : List UInt8} (h : ∀ y ∈ pre, y.2.l ≠ l) : inZ (pre ++ R) l n = inZ R l n := by
  unfold inZ
  rw [List.find?_append]
  have : pre.find? (fun z => isW l n z.2) = none := by
    rw [List.find?_eq_none]
    intro y hy
    have := h y hy
    simp [isW, this]
  rw [this]
  rfl
theorem inZ_none {R : List (Nat × We)} {l : Int} (n : List UInt8) (h : headZ R l = none) : inZ R l n = none := by
  have := inZ_app (R := []) (n := n) (headZ_none h)
  rw [List.append_nil] at this
  rw [this]
  rfl
theorem inZ_W (Z : List (Nat × We)) (l : Int) (n : List UInt8) : inW (Z.map (·.2)).reverse l n = inZ Z l n := by
  unfold inW inZ
  rw [List.reverse_reverse, List.find?_map]
  rfl
/-- The names of a list. -/
def namesZ (Z : List (Nat × We)) (l : Int) : List ByteArray := (Z.filter fun z => z.2.l == l).map fun z => str z.2.n
theorem namesZ_app {pre R : List (Nat × We)} {l : Int} (h : ∀ y ∈ pre, y.2.l ≠ l) : namesZ (pre ++ R) l = namesZ R l := by
  unfold namesZ
  rw [List.filter_append]
  have : pre.filter (fun z => z.2.l == l) = [] := by
    rw [List.filter_eq_nil_iff]
    intro y hy
    simp [h y hy]
  rw [this]
  rfl
theorem namesZ_none {R : List (Nat × We)} {l : Int} (h : headZ R l = none) : namesZ R l = [] := by
  have := namesZ_app (R := []) (headZ_none h)
  rw [List.append_nil] at this
  rw [this]
  rfl
theorem namesZ_len (Z : List (Nat × We)) (l : Int) : (namesZ Z l).length ≤ Z.length := by
  unfold namesZ
  rw [List.length_map]
  exact List.length_filter_le _ _
theorem namesZ_W (Z : List (Nat × We)) (l : Int) : namesW (Z.map (·.2)).reverse l = namesZ Z l := by
  unfold namesW namesZ
  rw [List.reverse_reverse, List.filter_map, List.map_map]
  rfl
/-- The pointers to the words, as their row has them. -/
def ptsZ (Z : List (Nat × We)) : List Value := (Z.map fun z => PtW z.1).reverse
theorem ptsZ_len (Z : List (Nat × We)) : (ptsZ Z).length = Z.length := by simp [ptsZ]
theorem ptsZ_cons (z : Nat × We) (Z : List (Nat × We)) : ptsZ (z :: Z) = ptsZ Z ++ [PtW z.1] := by simp [ptsZ]
/-- What hangs on a dictionary's block: the words' row, the map, the order's row, the words. -/
structure PdB (w : World) (v : Value) (b : Nat) (u : Value) (Z : List (Nat × We)) (O : List Int) : Prop where
  rv : w.ownsRow 0 71 1 v Z.length (ptsZ Z)
  mp : MapP w b (headZ Z)
  ru : w.ownsRow 0 3 1 u O.length (intsV O)
  ws : Ws w Z
def tailP (v : Value) (b : Nat) (u : Value) (Z : List (Nat × We)) : List Nat := b :: (v.ownBlock.toList ++ (u.ownBlock.toList ++ Z.map (·.1)))
theorem mem_tailP {v : Value} {b : Nat} {u : Value} {Z : List (Nat × We)} {x : Nat} : x ∈ tailP v b u Z ↔ x = b ∨ v.ownBlock = some x ∨ u.ownBlock = some x ∨ ∃ z ∈ Z, z.1 = x := by
  simp [tailP]
theorem PdB.mod {w w' : World} {S : List Nat} {v : Value} {b : Nat} {u : Value} {Z : List (Nat × We)} {O : List Int} (h : PdB w v b u Z O) (m : Mod S w w') (hS : ∀ x ∈ tailP v b u Z, x ∉ S) : PdB w' v b u Z O :=
  ⟨rowD_mod h.rv m fun g hg => hS g (mem_tailP.2 (Or.inr (Or.inl hg))), h.mp.mod m (hS b (mem_tailP.2 (Or.inl rfl))), rowD_mod h.ru m fun g hg => hS g (mem_tailP.2 (Or.inr (Or.inr (Or.inl hg)))), h.ws.mod m fun z hz => hS z.1 (mem_tailP.2 (Or.inr (Or.inr (Or.inr ⟨z, hz, rfl⟩))))⟩
theorem PdB.lt {w : World} {v : Value} {b : Nat} {u : Value} {Z : List (Nat × We)} {O : List Int} (h : PdB w v b u Z O) : ∀ x ∈ tailP v b u Z, x < w.heap.size := fun x hx => by
  rcases mem_tailP.1 hx with rfl | hx | hx | ⟨z, hz, rfl⟩
  · exact h.mp.lt
  · exact (h.rv.lt x hx).2
  · exact (h.ru.lt x hx).2
  · exact h.ws.lt z hz
/-- Block p of w is the program's dictionary D. -/
structure PdV (w : World) (p : Nat) (v : Value) (b : Nat) (u : Value) (Z : List (Nat × We)) (D : Di) : Prop where
  c0 : w.cell? ⟨p, 0, none⟩ = some v
  c1 : w.cell? ⟨p, 1, none⟩ = some (.map (some b))
  c2 : w.cell? ⟨p, 2, none⟩ = some (.int .i64 (D.k : Int))
  c3 : w.cell? ⟨p, 3, none⟩ = some u
  c4 : w.cell? ⟨p, 4, none⟩ = some (.int .i64 D.c)
  f : ∀ i, w.frozen? ⟨p, i, none⟩ = false
  lp : p < w.heap.size
  body : PdB w v b u Z D.O
  nd : (p :: tailP v b u Z).Nodup
  eW : D.W = (Z.map (·.2)).reverse
  names : ∀ a ∈ D.W, a.n.length ≤ 31
  dw : Z.length ≤ 2000
  do_ : D.O.length ≤ 8
  dk : D.k ≤ 8
  dk1 : 1 ≤ D.k
/-- The same, with the blocks T that are its own. -/
def Pd9 (w : World) (p : Nat) (T : List Nat) (D : Di) : Prop := ∃ v b u Z, PdV w p v b u Z D ∧ T = p :: tailP v b u Z
theorem PdV.mod {w w' : World} {S : List Nat} {p : Nat} {v : Value} {b : Nat} {u : Value} {Z : List (Nat × We)} {D : Di} (h : PdV w p v b u Z D) (m : Mod S w w') (hS : ∀ x ∈ p :: tailP v b u Z, x ∉ S) : PdV w' p v b u Z D :=
  have hp : p ∉ S := hS p (by simp)
  ⟨m.cell hp h.c0, m.cell hp h.c1, m.cell hp h.c2, m.cell hp h.c3, m.cell hp h.c4, fun i => (m.frozen hp h.lp).trans (h.f i), Nat.lt_of_lt_of_le h.lp m.size, h.body.mod m fun x hx => hS x (by simp [hx]), h.nd, h.eW, h.names, h.dw, h.do_, h.dk, h.dk1⟩
theorem PdV.lt {w : World} {p : Nat} {v : Value} {b : Nat} {u : Value} {Z : List (Nat × We)} {D : Di} (h : PdV w p v b u Z D) : ∀ x ∈ p :: tailP v b u Z, x < w.heap.size := fun x hx => by
  rcases List.mem_cons.1 hx with rfl | hx
  · exact h.lp
  · exact h.body.lt x hx
theorem Pd9.mod {w w' : World} {S T : List Nat} {p : Nat} {D : Di} (h : Pd9 w p T D) (m : Mod S w w') (hS : ∀ x ∈ T, x ∉ S) : Pd9 w' p T D := by
  obtain ⟨v, b, u, Z, h, rfl⟩ := h
  exact ⟨v, b, u, Z, h.mod m hS, rfl⟩
theorem Pd9.far {w w' : World} {T : List Nat} {p : Nat} {D : Di} (h : Pd9 w p T D) (m : Mod [] w w') : Pd9 w' p T D := h.mod m (by simp)
theorem Pd9.lt {w : World} {T : List Nat} {p : Nat} {D : Di} (h : Pd9 w p T D) : ∀ x ∈ T, x < w.heap.size := by
  obtain ⟨v, b, u, Z, h, rfl⟩ := h
  exact h.lt
/-- f answers r; p is then the program's dictionary D; of what was there its blocks T alone have turned. -/
def PPlays (p : Nat) (T : List Nat) (r : Value) (D : Di) (w : World) (e : Ending) (w' : World) : Prop := e = .returned r ∧ ∃ T', Pd9 w' p T' D ∧ TurnD T T' w w'
theorem PdV.apart {w : World} {p : Nat} {v : Value} {b : Nat} {u : Value} {Z : List (Nat × We)} {D : Di} (h : PdV w p v b u Z D) : ∀ x ∈ tailP v b u Z, x ∉ [p] := fun x hx hp => (List.nodup_cons.1 h.nd).1 (by simp at hp; rw [← hp]; exact hx)
theorem upP {p : Nat} {T : List Nat} {w w' : World} (h : Mod [p] w w') : Mod (p :: T) w w' := h.up (by simp)
theorem PdV.setk {w : World} {p : Nat} {v : Value} {b : Nat} {u : Value} {Z : List (Nat × We)} {D : Di} (h : PdV w p v b u Z D) (k : Nat) (hk : k ≤ 8) (hk1 : 1 ≤ k) : PdV (w.setCell ⟨p, 2, none⟩ (.int .i64 (k : Int))) p v b u Z { D with k := k } ∧ Mod [p] w (w.setCell ⟨p, 2, none⟩ (.int .i64 (k : Int))) := by
  have hm : Mod [p] w (w.setCell ⟨p, 2, none⟩ (.int .i64 (k : Int))) := (Mod.refl [p] w).set (x := ⟨p, 2, none⟩) (Or.inl (by simp)) _
  have o : ∀ i, i ≠ 2 → (w.setCell ⟨p, 2, none⟩ (.int .i64 (k : Int))).cell? ⟨p, i, none⟩ = w.cell? ⟨p, i, none⟩ := fun i hi => by rw [World.cell?_setCell_other (h := by intro e; injection e with _ e; exact hi e.symm)]
  exact ⟨⟨(o 0 (by omega)).trans h.c0, (o 1 (by omega)).trans h.c1, World.cell?_setCell_same _ _ _ (h := h.c2), (o 3 (by omega)).trans h.c3, (o 4 (by omega)).trans h.c4, fun i => (World.frozen?_setCell _ _ _ _).trans (h.f i), Nat.lt_of_lt_of_le h.lp hm.size, h.body.mod hm h.apart, h.nd, h.eW, h.names, h.dw, h.do_, hk, hk1⟩, hm⟩
theorem PdV.setc {w : World} {p : Nat} {v : Value} {b : Nat} {u : Value} {Z : List (Nat × We)} {D : Di} (h : PdV w p v b u Z D) (c : Int) : PdV (w.setCell ⟨p, 4, none⟩ (.int .i64 c)) p v b u Z { D with c := c } ∧ Mod [p] w (w.setCell ⟨p, 4, none⟩ (.int .i64 c)) := by
  have hm : Mod [p] w (w.setCell ⟨p, 4, none⟩ (.int .i64 c)) := (Mod.refl [p] w).set (x := ⟨p, 4, none⟩) (Or.inl (by simp)) _
  have o : ∀ i, i ≠ 4 → (w.setCell ⟨p, 4, none⟩ (.int .i64 c)).cell? ⟨p, i, none⟩ = w.cell? ⟨p, i, none⟩ := fun i hi => by rw [World.cell?_setCell_other (h := by intro e; injection e with _ e; exact hi e.symm)]
  exact ⟨⟨(o 0 (by omega)).trans h.c0, (o 1 (by omega)).trans h.c1, (o 2 (by omega)).trans h.c2, (o 3 (by omega)).trans h.c3, World.cell?_setCell_same _ _ _ (h := h.c4), fun i => (World.frozen?_setCell _ _ _ _).trans (h.f i), Nat.lt_of_lt_of_le h.lp hm.size, h.body.mod hm h.apart, h.nd, h.eW, h.names, h.dw, h.do_, h.dk, h.dk1⟩, hm⟩
/-- A new order, in a row of its own. -/
theorem PdV.setO {w w' : World} {p : Nat} {v : Value} {b : Nat} {u u' : Value} {Z : List (Nat × We)} {D : Di} {O : List Int} (h : PdV w p v b u Z D) (m : Mod [] w w') (hr : w'.ownsRow 0 3 1 u' O.length (intsV O)) (hg : ∀ g, u'.ownBlock = some g → w.heap.size ≤ g) (hO : O.length ≤ 8) :
    PdV (w'.setCell ⟨p, 3, none⟩ u') p v b u' Z { D with O := O } ∧ TurnD (p :: tailP v b u Z) (p :: tailP v b u' Z) w (w'.setCell ⟨p, 3, none⟩ u') := by
  have h2 := h.mod m (by simp)
  have hm : Mod [p] w' (w'.setCell ⟨p, 3, none⟩ u') := (Mod.refl [p] w').set (x := ⟨p, 3, none⟩) (Or.inl (by simp)) _
  have o : ∀ i, i ≠ 3 → (w'.setCell ⟨p, 3, none⟩ u').cell? ⟨p, i, none⟩ = w'.cell? ⟨p, i, none⟩ := fun i hi => by rw [World.cell?_setCell_other (h := by intro e; injection e with _ e; exact hi e.symm)]
  have hb := h2.body.mod hm h2.apart
  have hsu : u'.ownBlock ≠ some p := fun e => by have := hg p e; have := h.lp; omega
  have hnew : ∀ x ∈ p :: tailP v b u Z, u'.ownBlock ≠ some x := fun x hx e => by have := hg x e; have := h.lt x hx; omega
  refine ⟨⟨(o 0 (by omega)).trans h2.c0, (o 1 (by omega)).trans h2.c1, (o 2 (by omega)).trans h2.c2, World.cell?_setCell_same _ _ _ (h := h2.c3), (o 4 (by omega)).trans h2.c4, fun i => (World.frozen?_setCell _ _ _ _).trans (h2.f i), Nat.lt_of_lt_of_le h2.lp hm.size, ⟨hb.rv, hb.mp, rowD_mod hr hm fun g hg2 hp => hsu (by rw [hg2]; simpa using hp), hb.ws⟩, ?_, h.eW, h.names, h.dw, hO, h.dk, h.dk1⟩, (m.up (by simp)).trans (hm.up (by simp)), fun x hx => ?_⟩
  · have hn := h.nd
    unfold tailP at hn hnew ⊢
    cases hu : u'.ownBlock with
    | none =>
      simp only [Option.toList_none, List.nil_append]
      refine hn.sublist ?_
      simp
    | some g =>
      have hg1 : ∀ x ∈ p :: b :: (v.ownBlock.toList ++ (u.ownBlock.toList ++ Z.map (·.1))), g ≠ x := fun x hx e => hnew x hx (by rw [hu, e])
      have hn2 : (p :: b :: (v.ownBlock.toList ++ Z.map (·.1))).Nodup := hn.sublist (by simp)
      have hperm : (p :: b :: (v.ownBlock.toList ++ (g :: Z.map (·.1)))).Perm (g :: p :: b :: (v.ownBlock.toList ++ Z.map (·.1))) := by
        refine ((List.perm_middle (a := g) (l₁ := v.ownBlock.toList) (l₂ := Z.map (·.1))).cons b |>.cons p).trans ?_
        exact ((List.Perm.swap g b _).cons p).trans (List.Perm.swap g p _)
      refine hperm.symm.nodup_iff.1 ?_
      refine List.nodup_cons.2 ⟨fun hx => hg1 g ?_ rfl, hn2⟩
      simp only [List.mem_cons, List.mem_append] at hx ⊢
      rcases hx with hx | hx | hx | hx
      · exact Or.inl hx
      · exact Or.inr (Or.inl hx)
      · exact Or.inr (Or.inr (Or.inl hx))
      · exact Or.inr (Or.inr (Or.inr (Or.inr hx)))
  · rcases List.mem_cons.1 hx with rfl | hx
    · exact Or.inl (by simp)
    · rcases mem_tailP.1 hx with hx | hx | hx | hx
      · exact Or.inl (List.mem_cons.2 (Or.inr (mem_tailP.2 (Or.inl hx))))
      · exact Or.inl (List.mem_cons.2 (Or.inr (mem_tailP.2 (Or.inr (Or.inl hx)))))
      · exact Or.inr (hg x hx)
      · exact Or.inl (List.mem_cons.2 (Or.inr (mem_tailP.2 (Or.inr (Or.inr (Or.inr hx))))))
end Go.Proofs.Ytldnpppbnakcoaa
