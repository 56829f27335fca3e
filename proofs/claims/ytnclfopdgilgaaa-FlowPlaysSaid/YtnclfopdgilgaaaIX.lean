/- Layer 10: rows of instructions of a call's own. Condition: they are short of 1000000. -/
import Derived.Test.YtnclfopdgilgaaaIM
namespace Go.Proofs.Ytnclfopdgilgaaa
open Go.RowKit
set_option linter.unusedVariables false

abbrev flatX (x : Xi) : List Value := [.int .u8 (x.op : Int), .int .i64 x.a, .int .i64 x.w]
def flatsX (K : List Xi) : List Value := K.flatMap flatX
theorem flatsX_len (L : List Xi) : (flatsX L).length = L.length * 3 := by
  induction L with
  | nil => rfl
  | cons x r ih => simp only [flatsX, List.flatMap_cons, List.length_append] at ih ⊢; rw [ih]; simp [flatX]; omega
theorem flatsX_app (K Y : List Xi) : flatsX (K ++ Y) = flatsX K ++ flatsX Y := by simp [flatsX]
theorem flatsX_get (L : List Xi) (j k : Nat) (hj : j < L.length) (hk : k < 3) : (flatsX L)[j * 3 + k]? = (flatX L[j])[k]? := by
  have e : flatsX L = flatsX (L.take j) ++ (flatX L[j] ++ flatsX (L.drop (j + 1))) := by
    have h1 : L = L.take j ++ L[j] :: L.drop (j + 1) := by rw [← List.drop_eq_getElem_cons hj, List.take_append_drop]
    have h2 : flatsX L = flatsX (L.take j ++ L[j] :: L.drop (j + 1)) := by rw [← h1]
    rw [h2]
    unfold flatsX
    rw [List.flatMap_append, List.flatMap_cons]
  have hl : (flatsX (L.take j)).length = j * 3 := by rw [flatsX_len, List.length_take]; congr 1; omega
  rw [e, List.getElem?_append_right (by omega), hl, Nat.add_sub_cancel_left, List.getElem?_append_left (by simp [flatX]; omega)]
/-- An append of instructions: a name, so that the walk lays nothing open. -/
def appIns (ty : TypeId) (xs : Array Value) : Sem Value := Builtin.append_ #[27, 27] ty xs
@[go_sem ↓ high] theorem builtin_appIns (ty : TypeId) (cs : Array Bool) (xs : Array Value) : builtin .append #[27, 27] ty cs xs = (do pure (.value (← appIns ty xs))) := rfl
theorem infoIns : (Try.prog.info? 35).map (fun i => (i.zero, i.size, i.bytes)) = some (some (.agg #[.int .u8 0, .int .i64 0, .int .i64 0]), 3, 24) := by kernel_rfl
/-- v is a row of instructions of one's own. -/
def Xr (w : World) (base : Nat) (v : Value) (K : List Xi) : Prop := w.ownsRow base 35 3 v K.length (flatsX K)
theorem Xr.nil (w : World) (base : Nat) : Xr w base (.slice none 0 0) [] := ⟨rfl, .inl ⟨rfl, rfl⟩⟩
theorem Xr.far {w w' : World} {base : Nat} {v : Value} {K : List Xi} (h : Xr w base v K) (k : Mod [] w w') : Xr w' base v K := by
  refine ⟨h.1, h.2.elim Or.inl fun ⟨g, cap, cur, h1, h2, h3, h4⟩ => Or.inr ⟨g, cap, cur, h1, h2, ?_, h4⟩⟩
  rw [k.block g (Array.getElem?_eq_some_iff.1 h3).1 (by simp)]
  exact h3
theorem Xr.own {w : World} {b : Nat} {v : Value} {K : List Xi} (h : Xr w b v K) : ∀ g, v.ownBlock = some g → b ≤ g ∧ g < w.heap.size := fun g hg => World.ownsRow.lt h g hg
theorem Xr.lit (w : World) (base : Nat) (hb : base ≤ w.heap.size) (K : List Xi) (hK : K.length ≤ 1000000) (cs : Array Value) (hcs : cs = (flatsX K).toArray) : Xr (w.alloc (.cells cs 35)) base (.slice (some ⟨w.heap.size, 0, none⟩) K.length K.length) K := by
  subst hcs
  have hm : maxLen = 9223372036854775807 := rfl
  have := World.ownsRow_lit (base := base) (e := 35) (size := 3) w (flatsX K).toArray K.length hb (by omega) (by simp [flatsX_len])
  unfold Xr
  simpa using this
/-- More instructions, that lie at ad. -/
theorem Xr.app {w : World} {base : Nat} {v : Value} {K : List Xi} (h : Xr w base v K) (hb : base ≤ w.heap.size) (Y : List Xi) (hl : K.length + Y.length ≤ 1000000) (ty : TypeId) (ad : Addr) (n cp : Nat) (hn : n = Y.length) (hc : ∀ j u, (flatsX Y)[j]? = some u → w.cell? (ad.add j) = some u) :
    ∃ A m cap w', (appIns ty #[v, .slice (some ad) n cp]).run Try.prog w = .ok (.slice A m cap) w' ∧ m = K.length + n ∧ Xr w' base (.slice A m cap) (K ++ Y) ∧ Mod v.ownBlock.toList w w' := by
  subst hn
  obtain ⟨i, hi, hz0, hz1, hz2⟩ := info_parts infoIns
  have hm : maxLen = 9223372036854775807 := rfl
  obtain ⟨v', w', h1, h2, h3, _⟩ := run_append_own (P := Try.prog) w base 27 ty 35 i _ 3 24 Try.underlying27 hi hz0 hz1 hz2 rfl (by decide) _ _ _ h ad Y.length cp (flatsX Y) (flatsX_len Y) hc (fun u hu => by
    obtain ⟨x, _, hx⟩ := List.mem_flatMap.1 hu
    simp [flatX] at hx
    rcases hx with rfl | rfl | rfl <;> rfl) (by omega) (by omega) hb
  have h2' : Xr w' base v' (K ++ Y) := by
    unfold Xr
    rw [List.length_append, flatsX_app]
    exact h2
  have hs : ∃ A cap, v' = .slice A (K.length + Y.length) cap := by
    rcases h2.2 with ⟨rfl, h0⟩ | ⟨g, cap, cur, rfl, _⟩
    · exact ⟨none, 0, by rw [h0]⟩
    · exact ⟨_, cap, rfl⟩
  obtain ⟨A, cap, rfl⟩ := hs
  exact ⟨A, _, cap, w', h1, rfl, h2', Mod.of_grown h3 (by simp)⟩
theorem flat_new (w : World) (x : Xi) (t : TypeId) : ∀ j u, (flatsX [x])[j]? = some u → (w.alloc (.cells #[.int .u8 (x.op : Int), .int .i64 x.a, .int .i64 x.w] t)).cell? ((⟨w.heap.size, 0, none⟩ : Addr).add j) = some u := fun j u hj => by
  rw [WideShapes.add_plain, Nat.zero_add, World.cell?_alloc_new, ← hj, show flatsX [x] = [.int .u8 (x.op : Int), .int .i64 x.a, .int .i64 x.w] from rfl]
  simp
/-- A row and the world that it is in. -/
structure Xm (w0 w : World) (v : Value) (K : List Xi) : Prop where
  row : Xr w w0.heap.size v K
  m : Mod [] w0 w
  well : ∀ x ∈ K, WellX x
theorem Xm.far {w0 w w' : World} {v : Value} {K : List Xi} (h : Xm w0 w v K) (m : Mod [] w w') : Xm w0 w' v K := ⟨h.row.far m, h.m.trans m, h.well⟩
theorem Xm.app {w0 w : World} {v : Value} {K : List Xi} (h : Xm w0 w v K) (hl : K.length ≤ 100000) (x : Xi) (hx : WellX x) :
    ∃ A m cap w', (appIns 27 #[v, .slice (some ⟨w.heap.size, 0, none⟩) 1 1]).run Try.prog (w.alloc (.cells #[.int .u8 (x.op : Int), .int .i64 x.a, .int .i64 x.w] 35)) = .ok (.slice A m cap) w' ∧ m = K.length + 1 ∧ Xm w0 w' (.slice A m cap) (K ++ [x]) := by
  have h' := h.far ((Mod.refl [] w).alloc (.cells #[.int .u8 (x.op : Int), .int .i64 x.a, .int .i64 x.w] 35))
  obtain ⟨A, m, cap, w', h1, h2, h3, h4⟩ := h'.row.app h'.m.size [x] (by simp; omega) 27 ⟨w.heap.size, 0, none⟩ 1 1 rfl (flat_new w x _)
  exact ⟨A, m, cap, w', h1, h2, h3, h'.m.then h4 fun y hy => Or.inr (h'.row.own y (by simpa using hy)).1, fun y hy => (List.mem_append.1 hy).elim (h.well y) fun hy => by rw [List.mem_singleton.1 hy]; exact hx⟩
theorem Xr.len {w : World} {base : Nat} {A : Option Addr} {n cap : Nat} {K : List Xi} (h : Xr w base (.slice A n cap) K) : n = K.length ∧ (A = none → cap = 0) ∧ n ≤ cap ∧ cap ≤ 9223372036854775807 := by
  rcases h.2 with ⟨e, h0⟩ | ⟨g, cap', cur, e, _, _, h4, h5, _⟩
  · simp only [Value.slice.injEq] at e
    obtain ⟨rfl, rfl, rfl⟩ := e
    exact ⟨h0.symm, fun _ => rfl, by omega, by omega⟩
  · simp only [Value.slice.injEq] at e
    obtain ⟨rfl, rfl, rfl⟩ := e
    exact ⟨rfl, by simp, h4, h5⟩
theorem Xm.ins {w0 w : World} {A : Option Addr} {n cap : Nat} {K : List Xi} (h : Xm w0 w (.slice A n cap) K) : InsAt w A K := fun i hi => by
  rcases h.row.2 with ⟨e, h0⟩ | ⟨g, cap', cur, e, hr⟩
  · omega
  · simp only [Value.slice.injEq] at e
    obtain ⟨rfl, rfl, rfl⟩ := e
    have hown : w.ownsRow w0.heap.size 35 3 (.slice (some ⟨g, 0, none⟩) K.length cap) K.length (flatsX K) := h.row
    have get : ∀ k, k < 3 → w.cell? ⟨g, 0 + i * 3 + k, none⟩ = (flatX K[i])[k]? := fun k hk => by
      rw [Nat.zero_add, hown.cellAt (i * 3 + k) (by omega), flatsX_get K i k hi hk]
    exact ⟨g, 0, rfl, ⟨get 0 (by omega), get 1 (by omega), get 2 (by omega)⟩, h.well _ (List.getElem_mem hi)⟩
/-- What May answers, as a Boolean. -/
theorem may_at {L : List Xi} {words : Int} {r : Bool} (h : r = true ↔ MayP L words) {w : World} {e : Ending} {w' : World} (k : TellsM L words w e w') : e = .returned (.bool r) ∧ Mod [] w w' := by
  obtain ⟨r', rfl, h2, hm⟩ := k
  have : r' = r := by
    cases r <;> cases r' <;> simp at h h2 ⊢
    · exact h h2
    · exact h2 h
  subst this
  exact ⟨rfl, hm⟩
theorem may_yes {L : List Xi} {words : Int} (h : MayP L words) : true = true ↔ MayP L words := ⟨fun _ => h, fun _ => rfl⟩
theorem may_no {L : List Xi} {words : Int} (h : ¬ MayP L words) : false = true ↔ MayP L words := ⟨fun e => (by cases e), fun e => absurd e h⟩
theorem fit_split (loc n words : Int) (i : Nat) (x : Xi) : fitX loc n words i x = true ↔ (1 ≤ x.op ∧ x.op < 16) ∧ ((spanX loc n words (kindX x.op)).1 ≤ x.a ∧ x.a ≤ (spanX loc n words (kindX x.op)).2) ∧ ¬ (x.op = 12 ∧ 0 < i) ∧ (x.op = 1 ∨ x.w = 0) := by
  unfold fitX isOpX
  simp only [Bool.and_eq_true, Bool.or_eq_true, decide_eq_true_eq, Bool.not_eq_true', Bool.and_eq_false_iff, decide_eq_false_iff_not]
  constructor
  · rintro ⟨⟨⟨h1, h2⟩, h3⟩, h4⟩
    exact ⟨h1, h2, fun h => h3.elim (fun k => k h.1) (fun k => k h.2), h4⟩
  · rintro ⟨h1, h2, h3, h4⟩
    exact ⟨⟨⟨h1, h2⟩, Classical.byCases (p := x.op = 12) (fun e => Or.inr fun h => h3 ⟨e, h⟩) Or.inl⟩, h4⟩
end Go.Proofs.Ytnclfopdgilgaaa
