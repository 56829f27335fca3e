/- Layer 14: frames among the call's own blocks: a block of one slice, a row of frames, a row of locals for each. Plain words on worlds. No condition. -/
import Derived.Test.YtacmidlhfcnkiaaGA
import Derived.Laws.OwnMore
namespace Go.Proofs.Ytacmidlhfcnkiaa
open Go.RowKit
set_option linter.unusedVariables false

abbrev TF : TypeId := 34
abbrev Pt (p : Nat) : Value := .pointer (some ⟨p, 0, none⟩)
theorem size_allocI (w : World) (o : Obj) : (w.alloc o).heap.size = w.heap.size + 1 := by simp
theorem set_mod (w : World) (b k : Nat) (v : Value) : Mod [b] w (w.setCell ⟨b, k, none⟩ v) := (Mod.refl [b] w).set (x := ⟨b, k, none⟩) (Or.inl (by simp)) v
theorem al_mod (w : World) (o : Obj) : Mod [] w (w.alloc o) := (Mod.refl [] w).alloc o
theorem cell_eq {w : World} {b : Nat} {cs : Array Value} {t : TypeId} {m : Nat × Nat} (h : w.heap[b]? = some (.cells cs t m)) (i : Nat) : w.cell? ⟨b, i, none⟩ = cs[i]? := by simp only [World.cell?, h]; rfl
theorem row_mod {w w' : World} {S : List Nat} {e : TypeId} {k : Nat} {v : Value} {n : Nat} {xs : List Value} (h : w.ownsRow 0 e k v n xs) (m : Mod S w w') (hS : ∀ g, v.ownBlock = some g → g ∉ S) : w'.ownsRow 0 e k v n xs := by
  refine ⟨h.1, h.2.elim Or.inl fun ⟨g, cap, cur, h1, h2, h3, h4⟩ => Or.inr ⟨g, cap, cur, h1, h2, ?_, h4⟩⟩
  subst h1
  rw [m.block g (Array.getElem?_eq_some_iff.1 h3).1 (hS g rfl)]
  exact h3
/-- From w to w' blocks of S turned, and new ones; what was S is S' then. -/
def Turn (S S' : List Nat) (w w' : World) : Prop := Mod S w w' ∧ ∀ x ∈ S', x ∈ S ∨ w.heap.size ≤ x
theorem Turn.refl (S : List Nat) (w : World) : Turn S S w w := ⟨Mod.refl S w, fun x h => Or.inl h⟩
theorem Turn.of {S : List Nat} {w w' : World} (h : Mod S w w') : Turn S S w w' := ⟨h, fun x h => Or.inl h⟩
theorem Turn.trans {S T U : List Nat} {a b c : World} (h : Turn S T a b) (k : Turn T U b c) : Turn S U a c :=
  ⟨h.1.then k.1 h.2, fun x hx => (k.2 x hx).elim (h.2 x) fun hl => Or.inr (Nat.le_trans h.1.size hl)⟩
theorem Turn.far {S T : List Nat} {a b c : World} (h : Turn S T a b) (k : Mod [] b c) : Turn S T a c := ⟨h.1.far k, h.2⟩
theorem Turn.ahead {S T : List Nat} {a b c : World} (k : Mod [] a b) (h : Turn S T b c) : Turn S T a c := ⟨(k.up (by simp)).trans h.1, fun x hx => (h.2 x hx).imp id fun l => Nat.le_trans k.size l⟩
theorem Turn.apart {S T : List Nat} {a b : World} (h : Turn S T a b) {U : List Nat} (hU : ∀ x ∈ U, x < a.heap.size) (hd : ∀ x ∈ U, x ∉ S) : ∀ x ∈ U, x ∉ T := fun x hx ht => (h.2 x ht).elim (hd x hx) fun hl => by have := hU x hx; omega

/-- Locals that lie where a slice begins. -/
def Ls (w : World) (s : Value) (l : List Int) : Prop := ∃ A cap, s = .slice A l.length cap ∧ (A = none → cap = 0) ∧ l.length ≤ cap ∧ cap ≤ 9223372036854775807 ∧ Sl w A l
/-- Locals of a frame's own. -/
def Lc (w : World) (s : Value) (l : List Int) : Prop := (s = .slice none 0 0 ∧ l = []) ∨ ∃ b c, s = .slice (some ⟨b, 0, none⟩) l.length c ∧ Ow w b l c
theorem Lc.nil (w : World) : Lc w (.slice none 0 0) [] := Or.inl ⟨rfl, rfl⟩
theorem Lc.ls {w : World} {s : Value} {l : List Int} (h : Lc w s l) : Ls w s l := by
  rcases h with ⟨rfl, rfl⟩ | ⟨b, c, rfl, ho⟩
  · exact ⟨none, 0, rfl, fun _ => rfl, by simp, by omega, Sl.nil _ _⟩
  · obtain ⟨cur, h1, h2, h3, h4, h5⟩ := ho
    exact ⟨_, c, rfl, (fun e => by cases e), h3, h4, (show Ow w b l c from ⟨cur, h1, h2, h3, h4, h5⟩).sl⟩
theorem Ls.one {w : World} {s : Value} {l : List Int} (h : Ls w s l) : s.oneCell' = true := by
  obtain ⟨A, cap, rfl, _⟩ := h
  rfl
theorem Ls.mod {S : List Nat} {w w' : World} {s : Value} {l : List Int} (h : Ls w s l) (m : Mod S w w') (hS : ∀ g, s.ownBlock = some g → g ∉ S) : Ls w' s l := by
  obtain ⟨A, cap, rfl, h1, h2, h3, h4⟩ := h
  exact ⟨A, cap, rfl, h1, h2, h3, h4.mod m fun a ha => hS a.block (by rw [ha]; rfl)⟩
theorem Ls.far {w w' : World} {s : Value} {l : List Int} (h : Ls w s l) (m : Mod [] w w') : Ls w' s l := h.mod m (by simp)
theorem Lc.mod {S : List Nat} {w w' : World} {s : Value} {l : List Int} (h : Lc w s l) (m : Mod S w w') (hS : ∀ g, s.ownBlock = some g → g ∉ S) : Lc w' s l := by
  rcases h with ⟨rfl, rfl⟩ | ⟨b, c, rfl, ho⟩
  · exact Lc.nil _
  · exact Or.inr ⟨b, c, rfl, ho.mod m (hS b rfl)⟩
theorem Lc.far {w w' : World} {s : Value} {l : List Int} (h : Lc w s l) (m : Mod [] w w') : Lc w' s l := h.mod m (by simp)
theorem Lc.lt {w : World} {s : Value} {l : List Int} (h : Lc w s l) : ∀ g, s.ownBlock = some g → g < w.heap.size := by
  rcases h with ⟨rfl, rfl⟩ | ⟨b, c, rfl, ho⟩
  · intro g hg; cases hg
  · intro g hg
    cases hg
    exact ho.lt

def frV (q : Fm) (s : Value) : Value := .agg #[.int .i64 q.k, .int .i64 q.a, .int .i64 q.b, .int .i64 q.x, .int .i64 q.y, s]
def flatF (q : Fm × Value) : List Value := [.int .i64 q.1.k, .int .i64 q.1.a, .int .i64 q.1.b, .int .i64 q.1.x, .int .i64 q.1.y, q.2]
def flatG (O : List (Fm × Value)) : List Value := O.flatMap flatF
theorem flatG_len (O : List (Fm × Value)) : (flatG O).length = O.length * 6 := by
  induction O with
  | nil => rfl
  | cons x r ih => simp only [flatG, List.flatMap_cons, List.length_append] at ih ⊢; rw [ih]; simp [flatF]; omega
theorem flatG_app (A B : List (Fm × Value)) : flatG (A ++ B) = flatG A ++ flatG B := by simp [flatG]
theorem flatG_one (q : Fm × Value) : flatG [q] = flatF q := by simp [flatG]
theorem flatG_get (B : List (Fm × Value)) (x : Fm × Value) (C : List (Fm × Value)) (k : Nat) (hk : k < 6) : (flatG (B ++ x :: C))[B.length * 6 + k]? = (flatF x)[k]? := by
  have e : flatG (B ++ x :: C) = flatG B ++ (flatF x ++ flatG C) := by simp [flatG]
  rw [e, List.getElem?_append_right (by rw [flatG_len]; omega), flatG_len, Nat.add_sub_cancel_left, List.getElem?_append_left (by simp [flatF]; omega)]
theorem flatG_set (B : List (Fm × Value)) (x y : Fm × Value) (C : List (Fm × Value)) (k : Nat) (hk : k < 6) (v : Value) (hy : (flatF x).set k v = flatF y) : (flatG (B ++ x :: C)).set (B.length * 6 + k) v = flatG (B ++ y :: C) := by
  have e : ∀ y, flatG (B ++ y :: C) = flatG B ++ (flatF y ++ flatG C) := fun y => by simp [flatG]
  rw [e, e, List.set_append_right _ _ (by rw [flatG_len]; omega), flatG_len, Nat.add_sub_cancel_left, List.set_append_left _ _ (by simp [flatF]; omega), hy]
theorem flatG_take (O : List (Fm × Value)) (n : Nat) : (flatG O).take (n * 6) = flatG (O.take n) := by
  by_cases hn : n ≤ O.length
  · have e : flatG O = flatG (O.take n) ++ flatG (O.drop n) := by rw [← flatG_app, List.take_append_drop]
    have hl : (flatG (O.take n)).length = n * 6 := by rw [flatG_len, List.length_take, Nat.min_eq_left hn]
    rw [e, ← hl, List.take_left']
    rfl
  · rw [List.take_of_length_le (by rw [flatG_len]; omega), List.take_of_length_le (by omega)]
theorem flatG_cells {O : List (Fm × Value)} (h : ∀ q ∈ O, q.2.oneCell' = true) : ∀ u ∈ flatG O, u.oneCell' = true := fun u hu => by
  obtain ⟨x, hx, hu⟩ := List.mem_flatMap.1 hu
  simp [flatF] at hu
  rcases hu with rfl | rfl | rfl | rfl | rfl | rfl
  iterate 5 rfl
  exact h x hx
/-- The blocks of the locals. -/
def lbs (O : List (Fm × Value)) : List Nat := O.flatMap fun q => q.2.ownBlock.toList
theorem lbs_app (A B : List (Fm × Value)) : lbs (A ++ B) = lbs A ++ lbs B := by simp [lbs]
theorem lbs_cons (q : Fm × Value) (B : List (Fm × Value)) : lbs (q :: B) = q.2.ownBlock.toList ++ lbs B := by simp [lbs]
theorem mem_lbs {O : List (Fm × Value)} {x : Nat} : x ∈ lbs O ↔ ∃ q ∈ O, q.2.ownBlock = some x := by simp [lbs, List.mem_flatMap]
theorem lbs_sub {A B : List (Fm × Value)} (h : A.Sublist B) : (lbs A).Sublist (lbs B) := by
  induction h with
  | slnil => exact List.Sublist.refl _
  | cons q _ ih => rw [lbs_cons]; exact ih.trans (List.sublist_append_right _ _)
  | cons_cons q _ ih => rw [lbs_cons, lbs_cons]; exact List.Sublist.append (List.Sublist.refl _) ih
/-- All blocks. -/
def Sf (p : Nat) (v : Value) (O : List (Fm × Value)) : List Nat := p :: (v.ownBlock.toList ++ lbs O)
theorem mem_Sf {p : Nat} {v : Value} {O : List (Fm × Value)} {x : Nat} : x ∈ Sf p v O ↔ x = p ∨ v.ownBlock = some x ∨ x ∈ lbs O := by
  simp [Sf]
/-- Block p of w is frames (of the type tB): its slice v, the frames O, each with its slice of locals. -/
structure Fv (tB : TypeId) (w : World) (p : Nat) (v : Value) (O : List (Fm × Value)) : Prop where
  blk : w.heap[p]? = some (.cells #[v] tB (0, 0))
  row : w.ownsRow 0 TF 6 v O.length (flatG O)
  loc : ∀ q ∈ O, Lc w q.2 q.1.l
  sep : (Sf p v O).Nodup
  few : O.length ≤ 128
variable {tB : TypeId} {w w' : World} {p : Nat} {v : Value} {O : List (Fm × Value)}
theorem Fv.lp (h : Fv tB w p v O) : p < w.heap.size := (Array.getElem?_eq_some_iff.1 h.blk).1
theorem Fv.lv (h : Fv tB w p v O) : ∀ g, v.ownBlock = some g → g < w.heap.size := fun g hg => (World.ownsRow.lt h.row g hg).2
theorem Fv.ll (h : Fv tB w p v O) : ∀ x ∈ lbs O, x < w.heap.size := fun x hx => by
  obtain ⟨q, hq, e⟩ := mem_lbs.1 hx
  exact (h.loc q hq).lt x e
theorem Fv.lt (h : Fv tB w p v O) : ∀ x ∈ Sf p v O, x < w.heap.size := fun x hx => by
  rcases mem_Sf.1 hx with rfl | hx | hx
  · exact h.lp
  · exact h.lv x hx
  · exact h.ll x hx
theorem Fv.mod {T : List Nat} (h : Fv tB w p v O) (m : Mod T w w') (hS : ∀ x ∈ Sf p v O, x ∉ T) : Fv tB w' p v O :=
  ⟨(m.block p h.lp (hS p (mem_Sf.2 (Or.inl rfl)))).trans h.blk, row_mod h.row m fun g hg => hS g (mem_Sf.2 (Or.inr (Or.inl hg))),
   fun q hq => (h.loc q hq).mod m fun g hg => hS g (mem_Sf.2 (Or.inr (Or.inr (mem_lbs.2 ⟨q, hq, hg⟩)))), h.sep, h.few⟩
theorem Fv.far (h : Fv tB w p v O) (m : Mod [] w w') : Fv tB w' p v O := h.mod m (by simp)
theorem Fv.c0 (h : Fv tB w p v O) : w.cell? ⟨p, 0, none⟩ = some v := cell_eq h.blk 0
theorem Fv.f (h : Fv tB w p v O) (i : Nat) : w.frozen? ⟨p, i, none⟩ = false := by simp only [World.frozen?, h.blk]; rfl
theorem Fv.np (h : Fv tB w p v O) : v.ownBlock ≠ some p ∧ p ∉ lbs O := by
  have := (List.nodup_cons.1 h.sep).1
  simp only [List.mem_append, not_or] at this
  exact ⟨fun e => this.1 (by rw [e]; simp), this.2⟩
theorem Fv.nv (h : Fv tB w p v O) : ∀ g, v.ownBlock = some g → g ∉ lbs O := fun g hg hx => by
  have := (List.nodup_append.1 (List.nodup_cons.1 h.sep).2).2.2
  exact this g (by rw [hg]; simp) g hx rfl
theorem Fv.nl (h : Fv tB w p v O) : (lbs O).Nodup := (List.nodup_append.1 (List.nodup_cons.1 h.sep).2).2.1
theorem sep_of {p : Nat} {v : Value} {O : List (Fm × Value)} (h1 : v.ownBlock ≠ some p) (h2 : p ∉ lbs O) (h3 : ∀ g, v.ownBlock = some g → g ∉ lbs O) (h4 : (lbs O).Nodup) : (Sf p v O).Nodup := by
  refine List.nodup_cons.2 ⟨?_, List.nodup_append.2 ⟨?_, h4, ?_⟩⟩
  · simp only [List.mem_append, not_or, Option.mem_toList]
    exact ⟨h1, h2⟩
  · cases v.ownBlock <;> simp
  · intro a ha b hb e
    subst e
    exact h3 a (by simpa using ha) hb
theorem Fv.slice (h : Fv tB w p v O) : ∃ A cap, v = .slice A O.length cap ∧ (A = none → cap = 0) ∧ O.length ≤ cap ∧ cap ≤ 9223372036854775807 := by
  rcases h.row.2 with ⟨rfl, h0⟩ | ⟨b, cap, cur, rfl, _, _, h4, h5, _⟩
  · exact ⟨none, 0, by rw [h0], fun _ => rfl, by omega, by omega⟩
  · exact ⟨_, cap, rfl, by simp, h4, h5⟩
/-- A frame of it. -/
theorem Fv.at_ {A B : List (Fm × Value)} {q : Fm × Value} (h : Fv tB w p v (A ++ q :: B)) : ∃ g cap, v = .slice (some ⟨g, 0, none⟩) (A ++ q :: B).length cap ∧ g ≠ p ∧
    (∀ k, k < 6 → w.cell? ⟨g, A.length * 6 + k, none⟩ = (flatF q)[k]?) ∧ (∀ j, w.frozen? ⟨g, j, none⟩ = false) ∧ (A ++ q :: B).length ≤ cap ∧ cap ≤ 9223372036854775807 := by
  have hr := h.row
  have hop := h.np.1
  rcases h.row.2 with ⟨_, h0⟩ | ⟨g, cap, cur, rfl, _, _, h4, h5, _⟩
  · simp at h0
  · have get : ∀ k, k < 6 → w.cell? ⟨g, A.length * 6 + k, none⟩ = (flatF q)[k]? := fun k hk => by
      rw [hr.cellAt (A.length * 6 + k) (by simp; omega), flatG_get A q B k hk]
    exact ⟨g, cap, rfl, fun e => hop (by rw [e]; rfl), get, hr.frozenAt, h4, h5⟩
/-- A new slice is stored. -/
theorem Fv.make {W : World} {v' : Value} {O' : List (Fm × Value)} (hb : W.heap[p]? = some (.cells #[v] tB (0, 0))) (hr : W.ownsRow 0 TF 6 v' O'.length (flatG O')) (hl : ∀ q ∈ O', Lc W q.2 q.1.l) (hs : (Sf p v' O').Nodup) (hn : O'.length ≤ 128) :
    Fv tB (W.setCell ⟨p, 0, none⟩ v') p v' O' := by
  have hm := set_mod W p 0 v'
  have h1 : v'.ownBlock ≠ some p := fun e => (List.nodup_cons.1 hs).1 (by rw [e]; simp)
  have h2 : p ∉ lbs O' := fun e => (List.nodup_cons.1 hs).1 (by simp [e])
  refine ⟨heap_setCell_same W p 0 _ _ _ hb, row_mod hr hm fun g hg hx => h1 (by rw [hg]; simpa using hx), fun q hq => (hl q hq).mod hm fun g hg hx => h2 ?_, hs, hn⟩
  have : g = p := by simpa using hx
  subst this
  exact mem_lbs.2 ⟨q, hq, hg⟩
/-- From x on all is taken off. -/
theorem Fv.shrunk {A : Option Addr} {n cap x : Nat} {W : World} (h : Fv tB w p (.slice A n cap) O) (m : Mod (Value.slice A n cap).ownBlock.toList w W) (hr : W.ownsRow 0 TF 6 (.slice A x cap) x (flatG (O.take x))) (hx : x ≤ O.length) :
    Fv tB (W.setCell ⟨p, 0, none⟩ (.slice A x cap)) p (.slice A x cap) (O.take x) ∧ Turn (Sf p (.slice A n cap) O) (Sf p (.slice A x cap) (O.take x)) w (W.setCell ⟨p, 0, none⟩ (.slice A x cap)) := by
  have hv : (Value.slice A x cap).ownBlock = (Value.slice A n cap).ownBlock := by cases A <;> rfl
  have hlb : (lbs (O.take x)).Sublist (lbs O) := by
    have e : lbs O = lbs (O.take x) ++ lbs (O.drop x) := by rw [← lbs_app, List.take_append_drop]
    rw [e]
    exact List.sublist_append_left _ _
  have hsub : (Sf p (.slice A x cap) (O.take x)).Sublist (Sf p (.slice A n cap) O) := by
    unfold Sf
    rw [hv]
    exact List.Sublist.cons_cons _ (List.Sublist.append (List.Sublist.refl _) hlb)
  have hl : (O.take x).length = x := by simp; omega
  have nb : ∀ g ∈ (Value.slice A n cap).ownBlock.toList, g ≠ p ∧ g ∉ lbs O := fun g hg => by
    have hg' : (Value.slice A n cap).ownBlock = some g := by simpa using hg
    exact ⟨fun e => h.np.1 (by rw [hg', e]), h.nv g hg'⟩
  refine ⟨Fv.make (v := .slice A n cap) ((m.block p h.lp fun hx => (nb p hx).1 rfl).trans h.blk) (by rw [hl]; exact hr) (fun q hq => (h.loc q (List.mem_of_mem_take hq)).mod m fun g hg hx => (nb g hx).2 (mem_lbs.2 ⟨q, List.mem_of_mem_take hq, hg⟩)) (h.sep.sublist hsub) (by have := h.few; omega), ?_, fun y hy => Or.inl (hsub.subset hy)⟩
  exact (m.up fun y hy => mem_Sf.2 (Or.inr (Or.inl (by simpa using hy)))).trans ((set_mod W p 0 _).up fun y hy => mem_Sf.2 (Or.inl (by simpa using hy)))
theorem row_cut {e : TypeId} {k n cap : Nat} {A : Option Addr} {xs : List Value} (h : w.ownsRow 0 e k (.slice A n cap) n xs) (m : Nat) (hm : m ≤ n) : w.ownsRow 0 e k (.slice A m cap) m (xs.take (m * k)) := by
  have hle : m * k ≤ n * k := Nat.mul_le_mul_right k hm
  refine ⟨by rw [List.length_take, h.1]; exact Nat.min_eq_left hle, ?_⟩
  rcases h.2 with ⟨e, h0⟩ | ⟨g', cap', cur, e, hb, hg, h1, h2, h3, h4⟩
  · injection e with e1 e2 e3
    subst e1 e3
    exact Or.inl ⟨by rw [show m = 0 by omega], by omega⟩
  · injection e with e1 e2 e3
    subst e1 e3
    refine Or.inr ⟨g', cap, cur, rfl, hb, hg, by omega, h2, h3, ?_⟩
    rw [← h4, List.take_take, Nat.min_eq_left hle]
theorem Fv.rowTake {A : Option Addr} {n cap : Nat} (h : Fv tB w p (.slice A n cap) O) (x : Nat) (hx : x ≤ O.length) : w.ownsRow 0 TF 6 (.slice A x cap) x (flatG (O.take x)) := by
  have hn : n = O.length := by
    obtain ⟨A', c, e, _⟩ := h.slice
    injection e
  subst hn
  have := row_cut h.row x hx
  rw [flatG_take] at this
  exact this
/-- A row with one frame more is stored. -/
theorem Fv.grown {W : World} {v' : Value} {q : Fm × Value} (h : Fv tB w p v O) (m : Mod v.ownBlock.toList w W) (hr : W.ownsRow 0 TF 6 v' (O.length + 1) (flatG (O ++ [q]))) (hv : v'.ownBlock = v.ownBlock ∨ ∃ g, v'.ownBlock = some g ∧ w.heap.size ≤ g ∧ q.2.ownBlock ≠ some g) (hl : Lc W q.2 q.1.l) (hq : ∀ g, q.2.ownBlock = some g → w.heap.size ≤ g) (hn : O.length < 128) :
    Fv tB (W.setCell ⟨p, 0, none⟩ v') p v' (O ++ [q]) ∧ Turn (Sf p v O) (Sf p v' (O ++ [q])) w (W.setCell ⟨p, 0, none⟩ v') := by
  have nb : ∀ g ∈ v.ownBlock.toList, g ≠ p ∧ g ∉ lbs O := fun g hg => by
    have hg' : v.ownBlock = some g := by simpa using hg
    exact ⟨fun e => h.np.1 (by rw [hg', e]), h.nv g hg'⟩
  have hlq : lbs [q] = q.2.ownBlock.toList := by simp [lbs]
  have e1 : lbs (O ++ [q]) = lbs O ++ q.2.ownBlock.toList := by rw [lbs_app, hlq]
  have hp := h.lp
  refine ⟨Fv.make (v := v) ((m.block p h.lp fun hx => (nb p hx).1 rfl).trans h.blk) (by rw [List.length_append]; exact hr) (fun r hr => ?_) (sep_of ?_ ?_ ?_ ?_) (by simp; omega), ?_, fun y hy => ?_⟩
  · rcases List.mem_append.1 hr with hr | hr
    · exact (h.loc r hr).mod m fun g hg hx => (nb g hx).2 (mem_lbs.2 ⟨r, hr, hg⟩)
    · rw [List.mem_singleton.1 hr]; exact hl
  · rcases hv with e | ⟨g, e, hg, _⟩
    · rw [e]; exact h.np.1
    · rw [e]; intro hx; injection hx with hx; omega
  · rw [e1]
    simp only [List.mem_append, not_or, Option.mem_toList]
    exact ⟨h.np.2, fun e => by have := hq p e; omega⟩
  · intro g hg
    rw [e1]
    simp only [List.mem_append, not_or, Option.mem_toList]
    rcases hv with e | ⟨g', e, hg', hn'⟩
    · rw [e] at hg
      exact ⟨h.nv g hg, fun e' => by have := hq g e'; have := h.lv g hg; omega⟩
    · rw [e] at hg
      injection hg with hg
      subst hg
      exact ⟨fun hx => by have := h.ll g' hx; omega, hn'⟩
  · rw [e1]
    refine List.nodup_append.2 ⟨h.nl, ?_, ?_⟩
    · cases q.2.ownBlock <;> simp
    · intro a ha b hb e
      subst e
      have := h.ll a ha
      have := hq a (by simpa using hb)
      omega
  · exact (m.up fun y hy => mem_Sf.2 (Or.inr (Or.inl (by simpa using hy)))).trans ((set_mod W p 0 _).up fun y hy => mem_Sf.2 (Or.inl (by simpa using hy)))
  · rcases mem_Sf.1 hy with rfl | hy | hy
    · exact Or.inl (mem_Sf.2 (Or.inl rfl))
    · rcases hv with e | ⟨g, e, hg, _⟩
      · rw [e] at hy; exact Or.inl (mem_Sf.2 (Or.inr (Or.inl hy)))
      · rw [e] at hy; injection hy with hy; exact Or.inr (by omega)
    · rw [e1] at hy
      rcases List.mem_append.1 hy with hy | hy
      · exact Or.inl (mem_Sf.2 (Or.inr (Or.inr hy)))
      · exact Or.inr (hq y (by simpa using hy))
/-- A new row is stored, one of its frames (behind A) with locals that are new, or those that it had. -/
theorem Fv.renew {W : World} {v' : Value} {A B B' : List (Fm × Value)} {q : Fm × Value} (h : Fv tB w p v O) (hO : O = A ++ B) (hB : B'.Sublist B) (m : Mod [] w W) (hr : W.ownsRow 0 TF 6 v' (A ++ q :: B').length (flatG (A ++ q :: B'))) {g : Nat} (hv : v'.ownBlock = some g) (hg : w.heap.size ≤ g) (hl : Lc W q.2 q.1.l) (hq : ∀ b, q.2.ownBlock = some b → w.heap.size ≤ b ∧ b ≠ g) (hn : (A ++ q :: B').length ≤ 128) :
    Fv tB (W.setCell ⟨p, 0, none⟩ v') p v' (A ++ q :: B') ∧ Turn (Sf p v O) (Sf p v' (A ++ q :: B')) w (W.setCell ⟨p, 0, none⟩ v') := by
  subst hO
  have hp := h.lp
  have eO : lbs (A ++ B) = lbs A ++ lbs B := lbs_app A B
  have eN : lbs (A ++ q :: B') = lbs A ++ (q.2.ownBlock.toList ++ lbs B') := by rw [lbs_app, lbs_cons]
  have hsB : (lbs B').Sublist (lbs B) := lbs_sub hB
  have mem : ∀ y, y ∈ lbs (A ++ q :: B') → y ∈ lbs (A ++ B) ∨ q.2.ownBlock = some y := fun y hy => by
    rw [eN] at hy
    rcases List.mem_append.1 hy with hy | hy
    · exact Or.inl (by rw [eO]; exact List.mem_append.2 (Or.inl hy))
    · rcases List.mem_append.1 hy with hy | hy
      · exact Or.inr (by simpa using hy)
      · exact Or.inl (by rw [eO]; exact List.mem_append.2 (Or.inr (hsB.subset hy)))
  refine ⟨Fv.make (v := v) ((m.block p h.lp (by simp)).trans h.blk) hr (fun r hr => ?_) (sep_of ?_ ?_ ?_ ?_) hn, ?_, fun y hy => ?_⟩
  · rcases List.mem_append.1 hr with hr | hr
    · exact (h.loc r (by simp [hr])).far m
    · rcases List.mem_cons.1 hr with hr | hr
      · rw [hr]; exact hl
      · exact (h.loc r (List.mem_append.2 (Or.inr (hB.subset hr)))).far m
  · rw [hv]; intro hx; injection hx with hx; omega
  · intro hx
    rcases mem p hx with hx | hx
    · exact h.np.2 hx
    · have := (hq p hx).1; omega
  · intro g' hg' hx
    rw [hv] at hg'
    injection hg' with hg'
    subst hg'
    rcases mem g hx with hx | hx
    · have := h.ll g hx; omega
    · exact (hq g hx).2 rfl
  · rw [eN]
    have hnl := h.nl
    rw [eO] at hnl
    obtain ⟨n1, n2, n3⟩ := List.nodup_append.1 hnl
    refine List.nodup_append.2 ⟨n1, List.nodup_append.2 ⟨?_, n2.sublist hsB, ?_⟩, ?_⟩
    · cases q.2.ownBlock <;> simp
    · intro a ha b hb e
      subst e
      have := (hq a (by simpa using ha)).1
      have := h.ll a (by rw [eO]; exact List.mem_append.2 (Or.inr (hsB.subset hb)))
      omega
    · intro a ha b hb e
      subst e
      rcases List.mem_append.1 hb with hb | hb
      · have := (hq a (by simpa using hb)).1
        have := h.ll a (by rw [eO]; exact List.mem_append.2 (Or.inl ha))
        omega
      · exact n3 a ha a (hsB.subset hb) rfl
  · exact (m.up (by simp)).trans ((set_mod W p 0 _).up fun y hy => mem_Sf.2 (Or.inl (by simpa using hy)))
  · rcases mem_Sf.1 hy with rfl | hy | hy
    · exact Or.inl (mem_Sf.2 (Or.inl rfl))
    · rw [hv] at hy; injection hy with hy; exact Or.inr (by omega)
    · rcases mem y hy with hy | hy
      · exact Or.inl (mem_Sf.2 (Or.inr (Or.inr hy)))
      · exact Or.inr (hq y hy).1
/-- X of a frame is stored. -/
theorem Fv.setX {A B : List (Fm × Value)} {q : Fm × Value} {g n cap : Nat} (h : Fv tB w p (.slice (some ⟨g, 0, none⟩) n cap) (A ++ q :: B)) (x : Int) :
    Fv tB (w.setCell ⟨g, A.length * 6 + 3, none⟩ (.int .i64 x)) p (.slice (some ⟨g, 0, none⟩) n cap) (A ++ ({ q.1 with x := x }, q.2) :: B) ∧ Mod [g] w (w.setCell ⟨g, A.length * 6 + 3, none⟩ (.int .i64 x)) := by
  have hm := set_mod w g (A.length * 6 + 3) (.int .i64 x)
  have hv : (Value.slice (some ⟨g, 0, none⟩) n cap).ownBlock = some g := rfl
  have hgp : g ≠ p := fun e => h.np.1 (by rw [hv, e])
  have hnl := h.nv g hv
  have hn : n = (A ++ q :: B).length := by
    obtain ⟨A', c, e, _⟩ := h.slice
    injection e
  have elb : lbs (A ++ ({ q.1 with x := x }, q.2) :: B) = lbs (A ++ q :: B) := by rw [lbs_app, lbs_app, lbs_cons, lbs_cons]
  refine ⟨⟨(hm.block p h.lp (by simpa using hgp.symm)).trans h.blk, ?_, fun r hr => ?_, ?_, by have := h.few; simpa using this⟩, hm⟩
  · have hr := h.row
    rw [← hn] at hr
    have := (hr.stored (A.length * 6 + 3) (.int .i64 x)).1
    rw [flatG_set A q ({ q.1 with x := x }, q.2) B 3 (by omega) (.int .i64 x) rfl] at this
    rw [show (A ++ ({ q.1 with x := x }, q.2) :: B).length = n by rw [hn]; simp]
    exact this
  · have key : ∀ r ∈ A ++ q :: B, Lc (w.setCell ⟨g, A.length * 6 + 3, none⟩ (.int .i64 x)) r.2 r.1.l := fun r hr => (h.loc r hr).mod hm fun b hb hx => by
      have : b = g := by simpa using hx
      subst this
      exact hnl (mem_lbs.2 ⟨r, hr, hb⟩)
    rcases List.mem_append.1 hr with hr | hr
    · exact key r (by simp [hr])
    · rcases List.mem_cons.1 hr with hr | hr
      · rw [hr]; exact key q (by simp)
      · exact key r (by simp [hr])
  · unfold Sf; rw [elb]; exact h.sep
/-- A local of a frame is stored. -/
theorem Fv.setL {A B : List (Fm × Value)} {q : Fm} {b n cap : Nat} (h : Fv tB w p v (A ++ (q, .slice (some ⟨b, 0, none⟩) n cap) :: B)) (i : Nat) (hi : i < q.l.length) (x : Int) :
    Fv tB (w.setCell ⟨b, i, none⟩ (.int .i64 x)) p v (A ++ ({ q with l := q.l.set i x }, .slice (some ⟨b, 0, none⟩) n cap) :: B) ∧ Mod [b] w (w.setCell ⟨b, i, none⟩ (.int .i64 x)) := by
  have hm := set_mod w b i (.int .i64 x)
  have hbl : b ∈ lbs (A ++ (q, .slice (some ⟨b, 0, none⟩) n cap) :: B) := mem_lbs.2 ⟨(q, .slice (some ⟨b, 0, none⟩) n cap), by simp, rfl⟩
  have hbp : b ≠ p := fun e => h.np.2 (e ▸ hbl)
  have hbv : v.ownBlock ≠ some b := fun e => h.nv b e hbl
  have elb : lbs (A ++ ({ q with l := q.l.set i x }, .slice (some ⟨b, 0, none⟩) n cap) :: B) = lbs (A ++ (q, .slice (some ⟨b, 0, none⟩) n cap) :: B) := by rw [lbs_app, lbs_app, lbs_cons, lbs_cons]
  have hnl := h.nl
  rw [lbs_app, lbs_cons, List.nodup_append] at hnl
  obtain ⟨_, n2, n3⟩ := hnl
  have n4 := (List.nodup_append.1 n2).2.2
  have hbA : b ∉ lbs A := fun hx => n3 b hx b (by simp [Value.ownBlock]) rfl
  have hbB : b ∉ lbs B := fun hx => n4 b (by simp [Value.ownBlock]) b hx rfl
  have hlc := h.loc (q, .slice (some ⟨b, 0, none⟩) n cap) (by simp)
  refine ⟨⟨(hm.block p h.lp (by simpa using hbp.symm)).trans h.blk, ?_, fun r hr => ?_, ?_, by have := h.few; simpa using this⟩, hm⟩
  · have e : flatG (A ++ ({ q with l := q.l.set i x }, .slice (some ⟨b, 0, none⟩) n cap) :: B) = flatG (A ++ (q, .slice (some ⟨b, 0, none⟩) n cap) :: B) := by simp [flatG, flatF]
    rw [e, show (A ++ ({ q with l := q.l.set i x }, .slice (some ⟨b, 0, none⟩) n cap) :: B).length = (A ++ (q, .slice (some ⟨b, 0, none⟩) n cap) :: B).length by simp]
    exact row_mod h.row hm fun g hg hx => hbv (by rw [hg]; simpa using hx)
  · have key : ∀ (L : List (Fm × Value)), b ∉ lbs L → (∀ r ∈ L, r ∈ A ++ (q, .slice (some ⟨b, 0, none⟩) n cap) :: B) → ∀ r ∈ L, Lc (w.setCell ⟨b, i, none⟩ (.int .i64 x)) r.2 r.1.l := fun L hL hLm r1 hr1 => (h.loc r1 (hLm r1 hr1)).mod hm fun b' hb hx => by
      have e9 : b' = b := by simpa using hx
      exact hL (mem_lbs.2 ⟨r1, hr1, by rw [← e9]; exact hb⟩)
    rcases List.mem_append.1 hr with hr | hr
    · exact key A hbA (fun r' hr' => by simp [hr']) r hr
    · rcases List.mem_cons.1 hr with hr | hr
      · rw [hr]
        rcases hlc with ⟨e, _⟩ | ⟨b', c', e, ho⟩
        · cases e
        · injection e with e1 e2 e3
          injection e1 with e1
          injection e1 with e1
          subst e1 e3
          refine Or.inr ⟨b, cap, by simpa using e2, ?_⟩
          obtain ⟨cur, h1, h2, h3, h4, h5⟩ := ho
          refine ⟨cur.set! i (.int .i64 x), ?_, by simpa using h2, by simpa using h3, h4, ?_⟩
          · have := heap_setCell_same w b i _ _ (.int .i64 x) h1
            rw [this]
            simp
          · simp only [List.length_set, Array.set!_eq_setIfInBounds, Array.toList_setIfInBounds]
            rw [List.take_set, h5]
            simp [cellsI, List.map_set]
      · exact key B hbB (fun r' hr' => by simp [hr']) r hr
  · unfold Sf; rw [elb]; exact h.sep
end Go.Proofs.Ytacmidlhfcnkiaa
