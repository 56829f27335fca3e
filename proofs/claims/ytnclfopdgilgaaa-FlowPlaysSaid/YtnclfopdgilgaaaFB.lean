/- Layer 11: a builder among the call's own blocks: a block of two slices, a row of instructions, a row of open parts, a row of gaps for each. Plain words on worlds. No condition. -/
import Derived.Test.YtnclfopdgilgaaaFA
namespace Go.Proofs.Ytnclfopdgilgaaa
open Go.RowKit
set_option linter.unusedVariables false

abbrev Pt (p : Nat) : Value := .pointer (some ⟨p, 0, none⟩)
abbrev ints (g : List Nat) : List Int := g.map fun n : Nat => (n : Int)
def flatQ (q : Pk × Value) : List Value := [.int .i64 (q.1.k : Int), .int .i64 (q.1.s : Int), q.2]
def flatO (O : List (Pk × Value)) : List Value := O.flatMap flatQ
theorem flatO_len (O : List (Pk × Value)) : (flatO O).length = O.length * 3 := by
  induction O with
  | nil => rfl
  | cons x r ih => simp only [flatO, List.flatMap_cons, List.length_append] at ih ⊢; rw [ih]; simp [flatQ]; omega
theorem flatO_app (A B : List (Pk × Value)) : flatO (A ++ B) = flatO A ++ flatO B := by simp [flatO]
theorem flatO_one (q : Pk × Value) : flatO [q] = flatQ q := by simp [flatO]
theorem flatO_get (B : List (Pk × Value)) (x : Pk × Value) (C : List (Pk × Value)) (k : Nat) (hk : k < 3) : (flatO (B ++ x :: C))[B.length * 3 + k]? = (flatQ x)[k]? := by
  have e : flatO (B ++ x :: C) = flatO B ++ (flatQ x ++ flatO C) := by simp [flatO]
  rw [e, List.getElem?_append_right (by rw [flatO_len]; omega), flatO_len, Nat.add_sub_cancel_left, List.getElem?_append_left (by simp [flatQ]; omega)]
theorem flatO_set2 (B : List (Pk × Value)) (x : Pk × Value) (C : List (Pk × Value)) (v : Value) : (flatO (B ++ x :: C)).set (B.length * 3 + 2) v = flatO (B ++ (x.1, v) :: C) := by
  have e : ∀ y, flatO (B ++ y :: C) = flatO B ++ (flatQ y ++ flatO C) := fun y => by simp [flatO]
  rw [e, e, List.set_append_right _ _ (by rw [flatO_len]; omega), flatO_len, Nat.add_sub_cancel_left]
  rfl
theorem flatO_cells {O : List (Pk × Value)} (h : ∀ q ∈ O, q.2.oneCell' = true) : ∀ u ∈ flatO O, u.oneCell' = true := fun u hu => by
  obtain ⟨x, hx, hu⟩ := List.mem_flatMap.1 hu
  simp [flatQ] at hu
  rcases hu with rfl | rfl | rfl
  · rfl
  · rfl
  · exact h x hx
theorem row_mod {w w' : World} {S : List Nat} {e : TypeId} {k : Nat} {v : Value} {n : Nat} {xs : List Value} (h : w.ownsRow 0 e k v n xs) (m : Mod S w w') (hS : ∀ g, v.ownBlock = some g → g ∉ S) : w'.ownsRow 0 e k v n xs := by
  refine ⟨h.1, h.2.elim Or.inl fun ⟨g, cap, cur, h1, h2, h3, h4⟩ => Or.inr ⟨g, cap, cur, h1, h2, ?_, h4⟩⟩
  subst h1
  rw [m.block g (Array.getElem?_eq_some_iff.1 h3).1 (hS g rfl)]
  exact h3
/-- Rows of gaps. -/
abbrev Gr (w : World) (v : Value) (g : List Nat) : Prop := Ir w 0 v (ints g)
theorem Gr.slice {w : World} {v : Value} {g : List Nat} (h : Gr w v g) : ∃ A cap, v = .slice A g.length cap := by
  rcases h.2 with ⟨rfl, h0⟩ | ⟨b, cap, cur, rfl, _⟩
  · exact ⟨none, 0, by rw [List.length_map] at h0; rw [h0]⟩
  · exact ⟨_, cap, by rw [List.length_map]⟩
theorem Gr.one {w : World} {v : Value} {g : List Nat} (h : Gr w v g) : v.oneCell' = true := by
  obtain ⟨A, cap, rfl⟩ := h.slice
  rfl
/-- Block p of w is a builder (of the type tB, its parts of the type tP): its slices vc and vo, the parts O, each with its slice of gaps, the instructions L. -/
structure Bv (tB tP : TypeId) (w : World) (p : Nat) (vc vo : Value) (O : List (Pk × Value)) (L : List Xi) : Prop where
  blk : w.heap[p]? = some (.cells #[vc, vo] tB (0, 0))
  code : Xr w 0 vc L
  row : w.ownsRow 0 tP 3 vo O.length (flatO O)
  gaps : ∀ q ∈ O, Gr w q.2 q.1.g
  cp : vc.ownBlock ≠ some p
  op : vo.ownBlock ≠ some p
  co : ∀ g, vc.ownBlock = some g → vo.ownBlock ≠ some g
  gp : ∀ q ∈ O, q.2.ownBlock ≠ some p ∧ ∀ g, q.2.ownBlock = some g → vc.ownBlock ≠ some g ∧ vo.ownBlock ≠ some g
  gg : O.Pairwise fun a b => ∀ g, a.2.ownBlock = some g → b.2.ownBlock ≠ some g
/-- Its blocks. -/
def Sof (p : Nat) (vc vo : Value) (O : List (Pk × Value)) : List Nat := p :: (vc.ownBlock.toList ++ vo.ownBlock.toList ++ O.flatMap fun q => q.2.ownBlock.toList)
theorem mem_Sof {p : Nat} {vc vo : Value} {O : List (Pk × Value)} {x : Nat} : x ∈ Sof p vc vo O ↔ x = p ∨ vc.ownBlock = some x ∨ vo.ownBlock = some x ∨ ∃ q ∈ O, q.2.ownBlock = some x := by
  simp [Sof, List.mem_flatMap]
variable {tB tP : TypeId} {w w' : World} {p : Nat} {vc vo : Value} {O : List (Pk × Value)} {L : List Xi}
theorem Bv.lp (h : Bv tB tP w p vc vo O L) : p < w.heap.size := (Array.getElem?_eq_some_iff.1 h.blk).1
theorem Bv.lc (h : Bv tB tP w p vc vo O L) : ∀ g, vc.ownBlock = some g → g < w.heap.size := fun g hg => (World.ownsRow.lt h.code g hg).2
theorem Bv.lo (h : Bv tB tP w p vc vo O L) : ∀ g, vo.ownBlock = some g → g < w.heap.size := fun g hg => (World.ownsRow.lt h.row g hg).2
theorem Bv.lg (h : Bv tB tP w p vc vo O L) : ∀ q ∈ O, ∀ g, q.2.ownBlock = some g → g < w.heap.size := fun q hq g hg => (World.ownsRow.lt (h.gaps q hq) g hg).2
theorem Bv.lt (h : Bv tB tP w p vc vo O L) : ∀ x ∈ Sof p vc vo O, x < w.heap.size := fun x hx => by
  rcases mem_Sof.1 hx with rfl | hx | hx | ⟨q, hq, hx⟩
  · exact h.lp
  · exact h.lc x hx
  · exact h.lo x hx
  · exact h.lg q hq x hx
theorem Bv.mod {T : List Nat} (h : Bv tB tP w p vc vo O L) (m : Mod T w w') (hS : ∀ x ∈ Sof p vc vo O, x ∉ T) : Bv tB tP w' p vc vo O L :=
  ⟨(m.block p h.lp (hS p (mem_Sof.2 (Or.inl rfl)))).trans h.blk, row_mod h.code m fun g hg => hS g (mem_Sof.2 (Or.inr (Or.inl hg))), row_mod h.row m fun g hg => hS g (mem_Sof.2 (Or.inr (Or.inr (Or.inl hg)))),
   fun q hq => row_mod (h.gaps q hq) m fun g hg => hS g (mem_Sof.2 (Or.inr (Or.inr (Or.inr ⟨q, hq, hg⟩)))), h.cp, h.op, h.co, h.gp, h.gg⟩
theorem Bv.far (h : Bv tB tP w p vc vo O L) (m : Mod [] w w') : Bv tB tP w' p vc vo O L := h.mod m (by simp)
theorem Bv.c0 (h : Bv tB tP w p vc vo O L) : w.cell? ⟨p, 0, none⟩ = some vc := by simp only [World.cell?, h.blk]; rfl
theorem Bv.c1 (h : Bv tB tP w p vc vo O L) : w.cell? ⟨p, 1, none⟩ = some vo := by simp only [World.cell?, h.blk]; rfl
theorem Bv.f (h : Bv tB tP w p vc vo O L) (i : Nat) : w.frozen? ⟨p, i, none⟩ = false := by simp only [World.frozen?, h.blk]; rfl
theorem Bv.code_slice (h : Bv tB tP w p vc vo O L) : ∃ A cap, vc = .slice A L.length cap ∧ (A = none → cap = 0) ∧ L.length ≤ cap ∧ cap ≤ 9223372036854775807 := by
  rcases h.code.2 with ⟨rfl, h0⟩ | ⟨b, cap, cur, rfl, _, _, h4, h5, _⟩
  · exact ⟨none, 0, by rw [h0], fun _ => rfl, by omega, by omega⟩
  · exact ⟨_, cap, rfl, by simp, h4, h5⟩
theorem Bv.open_slice (h : Bv tB tP w p vc vo O L) : ∃ A cap, vo = .slice A O.length cap ∧ (A = none → cap = 0) ∧ O.length ≤ cap ∧ cap ≤ 9223372036854775807 := by
  rcases h.row.2 with ⟨rfl, h0⟩ | ⟨b, cap, cur, rfl, _, _, h4, h5, _⟩
  · exact ⟨none, 0, by rw [h0], fun _ => rfl, by omega, by omega⟩
  · exact ⟨_, cap, rfl, by simp, h4, h5⟩
/-- An instruction of it. -/
theorem Bv.ins (h : Bv tB tP w p vc vo O L) {i : Nat} {x : Xi} (hx : L[i]? = some x) : ∃ g cap, vc = .slice (some ⟨g, 0, none⟩) L.length cap ∧ g ≠ p ∧ AtX w g (i * 3) x ∧ (∀ j, w.frozen? ⟨g, j, none⟩ = false) ∧ L.length ≤ cap ∧ cap ≤ 9223372036854775807 := by
  obtain ⟨hi, rfl⟩ := List.getElem?_eq_some_iff.1 hx
  have hr : w.ownsRow 0 35 3 vc L.length (flatsX L) := h.code
  have hcp := h.cp
  rcases h.code.2 with ⟨_, h0⟩ | ⟨g, cap, cur, rfl, _, _, h4, h5, _⟩
  · omega
  · have get : ∀ k, k < 3 → w.cell? ⟨g, i * 3 + k, none⟩ = (flatX L[i])[k]? := fun k hk => by
      rw [hr.cellAt (i * 3 + k) (by omega), flatsX_get L i k hi hk]
    exact ⟨g, cap, rfl, fun e => hcp (by rw [e]; rfl), ⟨get 0 (by omega), get 1 (by omega), get 2 (by omega)⟩, hr.frozenAt, h4, h5⟩
/-- A part of it. -/
theorem Bv.part {A B : List (Pk × Value)} {q : Pk × Value} (h : Bv tB tP w p vc vo (A ++ q :: B) L) : ∃ g cap, vo = .slice (some ⟨g, 0, none⟩) (A ++ q :: B).length cap ∧ g ≠ p ∧
    w.cell? ⟨g, A.length * 3, none⟩ = some (.int .i64 (q.1.k : Int)) ∧ w.cell? ⟨g, A.length * 3 + 1, none⟩ = some (.int .i64 (q.1.s : Int)) ∧ w.cell? ⟨g, A.length * 3 + 2, none⟩ = some q.2 ∧ (∀ j, w.frozen? ⟨g, j, none⟩ = false) ∧ (A ++ q :: B).length ≤ cap ∧ cap ≤ 9223372036854775807 := by
  have hr := h.row
  have hop := h.op
  rcases h.row.2 with ⟨_, h0⟩ | ⟨g, cap, cur, rfl, _, _, h4, h5, _⟩
  · simp at h0
  · have get : ∀ k, k < 3 → w.cell? ⟨g, A.length * 3 + k, none⟩ = (flatQ q)[k]? := fun k hk => by
      rw [hr.cellAt (A.length * 3 + k) (by simp; omega), flatO_get A q B k hk]
    exact ⟨g, cap, rfl, fun e => hop (by rw [e]; rfl), get 0 (by omega), get 1 (by omega), get 2 (by omega), hr.frozenAt, h4, h5⟩
/-- From w to w' blocks of S turned, and new ones; what was S is S' then. -/
def Turn (S S' : List Nat) (w w' : World) : Prop := Mod S w w' ∧ ∀ x ∈ S', x ∈ S ∨ w.heap.size ≤ x
theorem Turn.refl (S : List Nat) (w : World) : Turn S S w w := ⟨Mod.refl S w, fun x h => Or.inl h⟩
theorem Turn.of {S : List Nat} {w w' : World} (h : Mod S w w') : Turn S S w w' := ⟨h, fun x h => Or.inl h⟩
theorem Turn.trans {S T U : List Nat} {a b c : World} (h : Turn S T a b) (k : Turn T U b c) : Turn S U a c :=
  ⟨h.1.then k.1 h.2, fun x hx => (k.2 x hx).elim (h.2 x) fun hl => Or.inr (Nat.le_trans h.1.size hl)⟩
theorem Turn.far {S T : List Nat} {a b c : World} (h : Turn S T a b) (k : Mod [] b c) : Turn S T a c := ⟨h.1.far k, h.2⟩
theorem Turn.ahead {S T : List Nat} {a b c : World} (k : Mod [] a b) (h : Turn S T b c) : Turn S T a c := ⟨(k.up (by simp)).trans h.1, fun x hx => (h.2 x hx).imp id fun l => Nat.le_trans k.size l⟩
theorem Turn.apart {S T : List Nat} {a b : World} (h : Turn S T a b) {U : List Nat} (hU : ∀ x ∈ U, x < a.heap.size) (hd : ∀ x ∈ U, x ∉ S) : ∀ x ∈ U, x ∉ T := fun x hx ht => (h.2 x ht).elim (hd x hx) fun hl => by have := hU x hx; omega
/-- The instruction i goes to a. -/
theorem Bv.setA {g n cap : Nat} (h : Bv tB tP w p (.slice (some ⟨g, 0, none⟩) n cap) vo O L) (i a : Nat) : Bv tB tP (w.setCell ⟨g, i * 3 + 1, none⟩ (.int .i64 (a : Int))) p (.slice (some ⟨g, 0, none⟩) n cap) vo O (setA L i a) ∧ Mod [g] w (w.setCell ⟨g, i * 3 + 1, none⟩ (.int .i64 (a : Int))) := by
  have hm := set_mod w g (i * 3 + 1) (.int .i64 (a : Int))
  have hc : (Value.slice (some ⟨g, 0, none⟩) n cap).ownBlock = some g := rfl
  have hgp : g ≠ p := fun e => h.cp (by rw [hc, e])
  refine ⟨⟨(hm.block p h.lp (by simpa using hgp.symm)).trans h.blk, ?_, row_mod h.row hm fun b hb hx => ?_, fun q hq => row_mod (h.gaps q hq) hm fun b hb hx => ?_, h.cp, h.op, h.co, h.gp, h.gg⟩, hm⟩
  · have hr : w.ownsRow 0 35 3 (.slice (some ⟨g, 0, none⟩) n cap) L.length (flatsX L) := h.code
    have hn : n = L.length := by
      obtain ⟨A, c, e, _⟩ := h.code_slice
      injection e
    subst hn
    have := (hr.stored (i * 3 + 1) (.int .i64 (a : Int))).1
    unfold Xr
    rw [setA_len, flats_setA]
    exact this
  · have : b = g := by simpa using hx
    subst this
    exact h.co b hc hb
  · have : b = g := by simpa using hx
    subst this
    exact ((h.gp q hq).2 b hb).1 hc
/-- Stores into the builder's own block. -/
theorem Bv.set0 {vc' : Value} {L' : List Xi} (h : Bv tB tP w p vc vo O L) (hr : Xr w 0 vc' L') (hc : vc'.ownBlock = vc.ownBlock ∨ ∀ g, vc'.ownBlock = some g → g ∉ Sof p vc vo O) :
    Bv tB tP (w.setCell ⟨p, 0, none⟩ vc') p vc' vo O L' ∧ Mod [p] w (w.setCell ⟨p, 0, none⟩ vc') := by
  have hm := set_mod w p 0 vc'
  have k1 : vc'.ownBlock ≠ some p := by
    rcases hc with e | e
    · rw [e]; exact h.cp
    · exact fun hg => e p hg (mem_Sof.2 (Or.inl rfl))
  refine ⟨⟨heap_setCell_same w p 0 _ _ _ h.blk, row_mod hr hm fun g hg hx => k1 (by rw [hg]; simpa using hx), row_mod h.row hm fun g hg hx => h.op (by rw [hg]; simpa using hx),
    fun q hq => row_mod (h.gaps q hq) hm fun g hg hx => (h.gp q hq).1 (by rw [hg]; simpa using hx), k1, h.op, fun g hg => ?_, fun q hq => ⟨(h.gp q hq).1, fun g hg => ⟨?_, ((h.gp q hq).2 g hg).2⟩⟩, h.gg⟩, hm⟩
  · rcases hc with e | e
    · exact h.co g (e ▸ hg)
    · exact fun ho => e g hg (mem_Sof.2 (Or.inr (Or.inr (Or.inl ho))))
  · rcases hc with e | e
    · rw [e]; exact ((h.gp q hq).2 g hg).1
    · exact fun hv => e g hv (mem_Sof.2 (Or.inr (Or.inr (Or.inr ⟨q, hq, hg⟩))))
theorem Bv.set1 {vo' : Value} {O' : List (Pk × Value)} (h : Bv tB tP w p vc vo O L) (hr : w.ownsRow 0 tP 3 vo' O'.length (flatO O')) (hg0 : ∀ q ∈ O', Gr w q.2 q.1.g)
    (hc : vo'.ownBlock = vo.ownBlock ∨ ∀ g, vo'.ownBlock = some g → g ∉ Sof p vc vo O ∧ ∀ q ∈ O', q.2.ownBlock ≠ some g)
    (hgp : ∀ q ∈ O', q.2.ownBlock ≠ some p ∧ ∀ g, q.2.ownBlock = some g → vc.ownBlock ≠ some g ∧ vo.ownBlock ≠ some g) (hgg : O'.Pairwise fun a b => ∀ g, a.2.ownBlock = some g → b.2.ownBlock ≠ some g) :
    Bv tB tP (w.setCell ⟨p, 1, none⟩ vo') p vc vo' O' L ∧ Mod [p] w (w.setCell ⟨p, 1, none⟩ vo') := by
  have hm := set_mod w p 1 vo'
  have k1 : vo'.ownBlock ≠ some p := by
    rcases hc with e | e
    · rw [e]; exact h.op
    · exact fun hg => (e p hg).1 (mem_Sof.2 (Or.inl rfl))
  refine ⟨⟨heap_setCell_same w p 1 _ _ _ h.blk, row_mod h.code hm fun g hg hx => h.cp (by rw [hg]; simpa using hx), row_mod hr hm fun g hg hx => k1 (by rw [hg]; simpa using hx),
    fun q hq => row_mod (hg0 q hq) hm fun g hg hx => (hgp q hq).1 (by rw [hg]; simpa using hx), h.cp, k1, fun g hg => ?_, fun q hq => ⟨(hgp q hq).1, fun g hg => ⟨((hgp q hq).2 g hg).1, ?_⟩⟩, hgg⟩, hm⟩
  · rcases hc with e | e
    · rw [e]; exact h.co g hg
    · exact fun ho => (e g ho).1 (mem_Sof.2 (Or.inr (Or.inl hg)))
  · rcases hc with e | e
    · rw [e]; exact ((hgp q hq).2 g hg).2
    · exact fun hv => (e g hv).2 q hq hg
/-- A store into the third cell of a part: its gaps' slice. -/
theorem Bv.setG {A B : List (Pk × Value)} {q : Pk × Value} {g n cap : Nat} (h : Bv tB tP w p vc (.slice (some ⟨g, 0, none⟩) n cap) (A ++ q :: B) L) {v : Value} {G : List Nat} (hr : Gr w v G)
    (hc : v.ownBlock = q.2.ownBlock ∨ ∀ b, v.ownBlock = some b → b ∉ Sof p vc (.slice (some ⟨g, 0, none⟩) n cap) (A ++ q :: B)) :
    Bv tB tP (w.setCell ⟨g, A.length * 3 + 2, none⟩ v) p vc (.slice (some ⟨g, 0, none⟩) n cap) (A ++ ({ q.1 with g := G }, v) :: B) L ∧ Mod [g] w (w.setCell ⟨g, A.length * 3 + 2, none⟩ v) := by
  have hm := set_mod w g (A.length * 3 + 2) v
  have ho : (Value.slice (some ⟨g, 0, none⟩) n cap).ownBlock = some g := rfl
  have hgp : g ≠ p := fun e => h.op (by rw [ho, e])
  have hn : n = (A ++ q :: B).length := by
    obtain ⟨A, c, e, _⟩ := h.open_slice
    injection e
  have hq : q ∈ A ++ q :: B := by simp
  have mem : ∀ x ∈ A ++ ({ q.1 with g := G }, v) :: B, x = ({ q.1 with g := G }, v) ∨ x ∈ A ++ q :: B := fun x hx => by
    rcases List.mem_append.1 hx with hx | hx
    · exact Or.inr (by simp [hx])
    · rcases List.mem_cons.1 hx with hx | hx
      · exact Or.inl hx
      · exact Or.inr (by simp [hx])
  have kv : v.ownBlock ≠ some p ∧ ∀ b, v.ownBlock = some b → vc.ownBlock ≠ some b ∧ b ≠ g := by
    rcases hc with e | e
    · rw [e]
      exact ⟨(h.gp q hq).1, fun b hb => ⟨((h.gp q hq).2 b hb).1, fun e2 => ((h.gp q hq).2 b hb).2 (by rw [ho, e2])⟩⟩
    · exact ⟨fun hb => e p hb (mem_Sof.2 (Or.inl rfl)), fun b hb => ⟨fun hv => e b hb (mem_Sof.2 (Or.inr (Or.inl hv))), fun e2 => e b hb (mem_Sof.2 (Or.inr (Or.inr (Or.inl (by rw [ho, e2])))))⟩⟩
  refine ⟨⟨(hm.block p h.lp (by simpa using hgp.symm)).trans h.blk, row_mod h.code hm fun b hb hx => ?_, ?_, fun x hx => ?_, h.cp, h.op, h.co, fun x hx => ?_, ?_⟩, hm⟩
  · have : b = g := by simpa using hx
    subst this
    exact h.co b hb ho
  · subst hn
    have := (h.row.stored (A.length * 3 + 2) v).1
    rw [flatO_set2] at this
    have e2 : flatO (A ++ ({ q.1 with g := G }, v) :: B) = flatO (A ++ (q.1, v) :: B) := by simp [flatO, flatQ]
    rw [e2]
    have e3 : (A ++ ({ q.1 with g := G }, v) :: B).length = (A ++ q :: B).length := by simp
    rw [e3]
    exact this
  · rcases mem x hx with rfl | hx
    · exact row_mod hr hm fun b hb hx => (kv.2 b hb).2 (by simpa using hx)
    · exact row_mod (h.gaps x hx) hm fun b hb hg => ((h.gp x hx).2 b hb).2 (by rw [ho]; exact congrArg some (by simpa using hg : b = g).symm)
  · rcases mem x hx with rfl | hx
    · exact ⟨kv.1, fun b hb => ⟨(kv.2 b hb).1, fun e => (kv.2 b hb).2 (by rw [ho] at e; injection e with e; exact e.symm)⟩⟩
    · exact h.gp x hx
  · have hgg := h.gg
    rw [List.pairwise_append, List.pairwise_cons] at hgg ⊢
    obtain ⟨h1, ⟨h2, h3⟩, h4⟩ := hgg
    have kx : ∀ x ∈ A ++ q :: B, (v.ownBlock = q.2.ownBlock → ∀ b, v.ownBlock = some b → q.2.ownBlock = some b) := fun x _ e b hb => e ▸ hb
    refine ⟨h1, ⟨fun x hx b hb => ?_, h3⟩, fun a ha x hx b hb => ?_⟩
    · rcases hc with e | e
      · exact h2 x hx b (e ▸ hb)
      · exact fun hx2 => e b hb (mem_Sof.2 (Or.inr (Or.inr (Or.inr ⟨x, by simp [hx], hx2⟩))))
    · rcases List.mem_cons.1 hx with rfl | hx
      · rcases hc with e | e
        · show v.ownBlock ≠ some b
          rw [e]
          exact h4 a ha q (by simp) b hb
        · exact fun hv => e b hv (mem_Sof.2 (Or.inr (Or.inr (Or.inr ⟨a, by simp [ha], hb⟩))))
      · exact h4 a ha x (by simp [hx]) b hb
end Go.Proofs.Ytnclfopdgilgaaa
