/- Layer 10: numbers and instructions in memory; ways. Condition: indices are short of 1000000000. -/
import Derived.Test.YtnclfopdgilgaaaIA
import Derived.Lib.SliceRun
import Derived.Maps.AppendAt
namespace Go.Proofs.Ytnclfopdgilgaaa
open Go.RowKit
set_option linter.unusedVariables false

def intsV (Y : List Int) : List Value := Y.map (Value.int .i64)
/-- Numbers that lie where a slice begins. -/
def IntsAt (w : World) (A : Option Addr) (Y : List Int) : Prop := ∀ i (hi : i < Y.length), ∃ b o, A = some ⟨b, o, none⟩ ∧ w.cell? ⟨b, o + i, none⟩ = some (.int .i64 Y[i])
theorem IntsAt.far {w w' : World} {A : Option Addr} {Y : List Int} (h : IntsAt w A Y) (m : Mod [] w w') : IntsAt w' A Y := fun i hi => by
  obtain ⟨b, o, e, hc⟩ := h i hi
  exact ⟨b, o, e, m.cell (by simp) hc⟩
/-- From w to w' none of the blocks U turned. -/
def Keep (U : List Nat) (w w' : World) : Prop := ∃ S, Mod S w w' ∧ ∀ x ∈ U, x ∉ S
theorem row_keep {w w' : World} {U : List Nat} {base k n : Nat} {e : TypeId} {v : Value} {xs : List Value} (h : w.ownsRow base e k v n xs) (m : Keep U w w') (hU : ∀ g, v.ownBlock = some g → g ∈ U) : w'.ownsRow base e k v n xs := by
  obtain ⟨S, m, hS⟩ := m
  refine ⟨h.1, h.2.elim Or.inl fun ⟨g, cap, cur, h1, h2, h3, h4⟩ => Or.inr ⟨g, cap, cur, h1, h2, ?_, h4⟩⟩
  subst h1
  rw [m.block g (Array.getElem?_eq_some_iff.1 h3).1 (hS g (hU g rfl))]
  exact h3
/-- An append of numbers: a name, so that the walk lays nothing open. -/
def appInts (ty : TypeId) (xs : Array Value) : Sem Value := Builtin.append_ #[46, 46] ty xs
@[go_sem ↓ high] theorem builtin_appInts (ty : TypeId) (cs : Array Bool) (xs : Array Value) : builtin .append #[46, 46] ty cs xs = (do pure (.value (← appInts ty xs))) := rfl
theorem infoInt9 : (Try.prog.info? 3).map (fun i => (i.zero, i.size, i.bytes)) = some (some (.int .i64 0), 1, 8) := by kernel_rfl
/-- v is a row of numbers of one's own, nil or in a block from base on. -/
def Ir (w : World) (base : Nat) (v : Value) (Y : List Int) : Prop := w.ownsRow base 3 1 v Y.length (intsV Y)
theorem Ir.far {w w' : World} {base : Nat} {v : Value} {Y : List Int} (h : Ir w base v Y) (k : Mod [] w w') : Ir w' base v Y := row_keep h ⟨[], k, by simp⟩ (U := v.ownBlock.toList) (fun g hg => by simp [hg])
theorem Ir.keep {w w' : World} {base : Nat} {v : Value} {Y : List Int} {b : Nat} (h : Ir w base v Y) (k : Mod [b] w w') (hb : v.ownBlock ≠ some b) : Ir w' base v Y :=
  row_keep h (U := v.ownBlock.toList) ⟨[b], k, fun x hx hs => by
    have e : x = b := by simpa using hs
    subst e
    exact hb (by simpa using hx)⟩ (fun g hg => by simp [hg])
theorem Ir.opened {w : World} {base : Nat} {v : Value} {Y : List Int} (h : Ir w base v Y) : ∃ A cap, v = .slice A Y.length cap ∧ IntsAt w A Y ∧ (A = none → cap = 0) ∧ Y.length ≤ cap ∧ cap ≤ 9223372036854775807 := by
  rcases h.2 with ⟨rfl, h0⟩ | ⟨g, cap, cur, rfl, h2, h3, h4, h5, _⟩
  · exact ⟨none, 0, by rw [h0], fun j hj => by omega, fun _ => rfl, by omega, by omega⟩
  · refine ⟨some ⟨g, 0, none⟩, cap, rfl, fun j hj => ⟨g, 0, rfl, ?_⟩, by simp, h4, h5⟩
    have hown : w.ownsRow base 3 1 (.slice (some ⟨g, 0, none⟩) Y.length cap) Y.length (intsV Y) := h
    rw [Nat.zero_add, hown.cellAt j (by omega)]
    simp [intsV, hj]
theorem Ir.own {w : World} {b : Nat} {v : Value} {X : List Int} (h : Ir w b v X) : ∀ g, v.ownBlock = some g → b ≤ g ∧ g < w.heap.size := fun g hg => World.ownsRow.lt h g hg
theorem Ir.nil (w : World) (base : Nat) : Ir w base (.slice none 0 0) [] := ⟨rfl, .inl ⟨rfl, rfl⟩⟩
theorem Ir.one (w : World) (base : Nat) (hb : base ≤ w.heap.size) (c : Int) : Ir (w.alloc (.cells #[.int .i64 c] 3)) base (.slice (some ⟨w.heap.size, 0, none⟩) 1 1) [c] := by
  have := World.ownsRow_lit (base := base) (e := 3) (size := 1) w #[.int .i64 c] 1 hb (by decide) rfl
  exact this
/-- Without its last number. -/
theorem Ir.pop {w : World} {base : Nat} {A : Option Addr} {n cap : Nat} {Y : List Int} {c : Int} (h : Ir w base (.slice A n cap) (Y ++ [c])) : Ir w base (.slice A Y.length cap) Y := by
  rcases h.2 with ⟨_, h0⟩ | ⟨g, cap', cur, e, h2, h3, h4, h5, h6, h7⟩
  · simp at h0
  · simp only [Value.slice.injEq] at e
    obtain ⟨rfl, rfl, rfl⟩ := e
    simp only [List.length_append, List.length_singleton] at h4 h7
    refine ⟨by simp [intsV], Or.inr ⟨g, cap, cur, rfl, h2, h3, by omega, h5, h6, ?_⟩⟩
    have e1 : cur.toList.take (Y.length * 1) = (cur.toList.take ((Y.length + 1) * 1)).take (Y.length * 1) := by rw [List.take_take]; congr 1; omega
    rw [e1, h7]
    simp [intsV]
/-- One number appended to a row of one's own. -/
theorem Ir.app1 {w : World} {base : Nat} {v : Value} {X : List Int} (h : Ir w base v X) (hb : base ≤ w.heap.size) (hl : X.length ≤ 1000000000) (ty : TypeId) (a : Addr) (cp : Nat) (c : Int) (hc : w.cell? (a.add 0) = some (.int .i64 c)) :
    ∃ A n cap w', (Builtin.append_ #[46, 46] ty #[v, .slice (some a) 1 cp]).run Try.prog w = .ok (.slice A n cap) w' ∧ n = X.length + 1 ∧ Ir w' base (.slice A n cap) (X ++ [c]) ∧ w.grownBy w' v.ownBlock ∧ ((Value.slice A n cap).ownBlock = v.ownBlock ∨ (Value.slice A n cap).ownBlock = some w.heap.size) := by
  obtain ⟨i, hi, hz0, hz1, hz2⟩ := info_parts infoInt9
  have hm : maxLen = 9223372036854775807 := rfl
  obtain ⟨v', w', h1, h2, h3, h4, h5⟩ := run_append_own_at (P := Try.prog) w base 46 ty 3 i (.int .i64 0) 1 8 Try.underlying46 hi hz0 hz1 hz2 rfl (by decide) _ _ _ h a 1 cp (intsV [c]) (by simp [intsV])
    (fun j u hj => by
      have hj' := (List.getElem?_eq_some_iff.1 hj).1
      have : j = 0 := by simpa [intsV] using hj'
      subst this
      rw [hc, ← hj]; simp [intsV]) (fun u hu => by obtain ⟨x, _, rfl⟩ := List.mem_map.1 hu; rfl) (by omega) (by omega) hb
  have h2' : Ir w' base v' (X ++ [c]) := by
    unfold Ir
    have e : (X ++ [c]).length = X.length + 1 := by simp
    have e2 : intsV (X ++ [c]) = intsV X ++ intsV [c] := by simp [intsV]
    rw [e, e2]
    exact h2
  obtain ⟨A, cap, rfl, _⟩ := h2'.opened
  exact ⟨A, _, cap, w', h1, by simp, h2', h3, h5⟩
theorem one_int (w : World) (c : Int) : (w.alloc (.cells #[.int .i64 c] 3)).cell? ((⟨w.heap.size, 0, none⟩ : Addr).add 0) = some (.int .i64 c) := by
  rw [WideShapes.add_plain, Nat.zero_add, World.cell?_alloc_new]
  rfl
/-- Block b is these numbers. -/
def Iv (w : World) (b : Nat) (o : List Int) : Prop := w.heap[b]? = some (.cells (intsV o).toArray 3 (0, 0)) ∧ o.length ≤ 1000000000
theorem Iv.lt {w : World} {b : Nat} {o : List Int} (h : Iv w b o) : b < w.heap.size := (Array.getElem?_eq_some_iff.1 h.1).1
theorem Iv.mod {S : List Nat} {w w' : World} {b : Nat} {o : List Int} (h : Iv w b o) (m : Mod S w w') (hb : b ∉ S) : Iv w' b o := ⟨(m.block b h.lt hb).trans h.1, h.2⟩
theorem Iv.far {w w' : World} {b : Nat} {o : List Int} (h : Iv w b o) (m : Mod [] w w') : Iv w' b o := h.mod m (by simp)
theorem Iv.owns {w : World} {b : Nat} {o : List Int} (h : Iv w b o) : w.ownsRow b 3 1 (.slice (some ⟨b, 0, none⟩) o.length o.length) o.length (intsV o) := by
  have hm : maxLen = 9223372036854775807 := rfl
  have h2 := h.2
  exact ⟨by simp [intsV], .inr ⟨b, o.length, _, rfl, Nat.le_refl _, h.1, Nat.le_refl _, by omega, by simp [intsV], by rw [Nat.mul_one]; exact List.take_of_length_le (by simp [intsV])⟩⟩
theorem Iv.cell {w : World} {b : Nat} {o : List Int} (h : Iv w b o) {k : Nat} {v : Int} (hk : o[k]? = some v) : w.cell? ⟨b, k, none⟩ = some (.int .i64 v) := by
  have hl := (List.getElem?_eq_some_iff.1 hk).1
  rw [h.owns.cellAt k (by omega)]
  simp [intsV, hk]
theorem Iv.ints {w : World} {b : Nat} {o : List Int} (h : Iv w b o) : IntsAt w (some ⟨b, 0, none⟩) o := fun i hi => ⟨b, 0, rfl, by
  rw [Nat.zero_add]
  exact h.cell (List.getElem?_eq_getElem hi)⟩
theorem Iv.free {w : World} {b : Nat} {o : List Int} (h : Iv w b o) (k : Nat) : w.frozen? ⟨b, k, none⟩ = false := h.owns.frozenAt k
theorem Iv.set {w : World} {b : Nat} {o : List Int} (h : Iv w b o) (k : Nat) (v : Int) : Iv (w.setCell ⟨b, k, none⟩ (.int .i64 v)) b (o.set k v) := by
  refine ⟨?_, by rw [List.length_set]; exact h.2⟩
  rw [heap_setCell_same w b k _ _ _ h.1]
  congr 2
  simp [intsV, List.map_set]
theorem set_mod (w : World) (b k : Nat) (v : Value) : Mod [b] w (w.setCell ⟨b, k, none⟩ v) := (Mod.refl [b] w).set (x := ⟨b, k, none⟩) (Or.inl (by simp)) v
/-- How many of a block's cells are -1. -/
def isM1 : Value → Bool
  | .int .i64 n => n == -1
  | _ => false
def cntW (w : World) (b : Nat) : Nat := match w.heap[b]? with
  | some (.cells cur _ _) => cur.toList.countP isM1
  | _ => 0
theorem Iv.cnt {w : World} {b : Nat} {o : List Int} (h : Iv w b o) : cntW w b = Go.Proofs.Ytnclfopdgilgaaa.cnt o := by
  unfold cntW
  rw [h.1]
  simp only [intsV, Go.Proofs.Ytnclfopdgilgaaa.cnt]
  rw [List.countP_map]
  congr 1
/-- An instruction in three cells. -/
structure AtX (W : World) (b o : Nat) (x : Xi) : Prop where
  c0 : W.cell? ⟨b, o, none⟩ = some (.int .u8 (x.op : Int))
  c1 : W.cell? ⟨b, o + 1, none⟩ = some (.int .i64 x.a)
  c2 : W.cell? ⟨b, o + 2, none⟩ = some (.int .i64 x.w)
theorem AtX.far {w w' : World} {b o : Nat} {x : Xi} (h : AtX w b o x) (m : Mod [] w w') : AtX w' b o x := ⟨m.cell (by simp) h.c0, m.cell (by simp) h.c1, m.cell (by simp) h.c2⟩
structure WellX (x : Xi) : Prop where
  op : x.op < 256
  a : I64 x.a
  w : I64 x.w
/-- These instructions lie where a slice begins. -/
def InsAt (w : World) (A : Option Addr) (L : List Xi) : Prop := ∀ i (hi : i < L.length), ∃ b o, A = some ⟨b, o, none⟩ ∧ AtX w b (o + i * 3) L[i] ∧ WellX L[i]
theorem InsAt.far {w w' : World} {A : Option Addr} {L : List Xi} (h : InsAt w A L) (m : Mod [] w w') : InsAt w' A L := fun i hi => by
  obtain ⟨b, o, e, hc, hw⟩ := h i hi
  exact ⟨b, o, e, hc.far m, hw⟩
theorem InsAt.get {w : World} {A : Option Addr} {L : List Xi} (h : InsAt w A L) {i : Nat} {x : Xi} (hx : L[i]? = some x) : ∃ b o, A = some ⟨b, o, none⟩ ∧ AtX w b (o + i * 3) x ∧ WellX x := by
  obtain ⟨hi, rfl⟩ := List.getElem?_eq_some_iff.1 hx
  exact h i hi
theorem InsAt.take {w : World} {A : Option Addr} {L : List Xi} (h : InsAt w A L) (k : Nat) : InsAt w A (L.take k) := fun i hi => by
  obtain ⟨b, o, e, hc, hw⟩ := h i (by simp at hi; omega)
  exact ⟨b, o, e, by simpa using hc, by simpa using hw⟩
abbrev insV (x : Xi) : Value := .agg #[.int .u8 (x.op : Int), .int .i64 x.a, .int .i64 x.w]
abbrev defV (A : Option Addr) (n cap : Nat) : Value := .agg #[.slice A n cap]
theorem size_allocI (w : World) (o : Obj) : (w.alloc o).heap.size = w.heap.size + 1 := by simp
/-- Ways that lie where a slice begins. -/
def WaysAt (w : World) (A : Option Addr) (W : List (Int × Int)) : Prop := ∀ k (hk : k < W.length), ∃ b, A = some ⟨b, 0, none⟩ ∧ w.cell? ⟨b, k * 2, none⟩ = some (.int .i64 W[k].1) ∧ w.cell? ⟨b, k * 2 + 1, none⟩ = some (.int .i64 W[k].2)
theorem WaysAt.far {w w' : World} {A : Option Addr} {W : List (Int × Int)} (h : WaysAt w A W) (m : Mod [] w w') : WaysAt w' A W := fun i hi => by
  obtain ⟨b, e, h1, h2⟩ := h i hi
  exact ⟨b, e, m.cell (by simp) h1, m.cell (by simp) h2⟩
theorem ways_nil (w : World) : WaysAt w none [] := fun k hk => absurd hk (by simp)
theorem ways_one (w : World) (a b : Int) (t : TypeId) {n : Nat} (hn : n = w.heap.size) : WaysAt (w.alloc (.cells #[.int .i64 a, .int .i64 b] t)) (some ⟨n, 0, none⟩) [(a, b)] := fun k hk => by
  subst hn
  have : k = 0 := by simpa using hk
  subst this
  refine ⟨_, rfl, ?_, ?_⟩ <;> (rw [World.cell?_alloc_new]; rfl)
theorem ways_pair (w : World) (a b c d : Int) (t : TypeId) {n : Nat} (hn : n = w.heap.size) : WaysAt (w.alloc (.cells #[.int .i64 a, .int .i64 b, .int .i64 c, .int .i64 d] t)) (some ⟨n, 0, none⟩) [(a, b), (c, d)] := fun k hk => by
  subst hn
  match k, hk with
  | 0, _ => refine ⟨_, rfl, ?_, ?_⟩ <;> (rw [World.cell?_alloc_new]; rfl)
  | 1, _ => refine ⟨_, rfl, ?_, ?_⟩ <;> (rw [World.cell?_alloc_new]; rfl)
end Go.Proofs.Ytnclfopdgilgaaa
