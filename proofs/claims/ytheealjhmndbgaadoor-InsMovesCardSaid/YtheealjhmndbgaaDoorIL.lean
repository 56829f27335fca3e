/- Layer 10: areFit. Condition: the table reads as the program's text lays it; there are at most 1000000 instructions. -/
import Derived.Test.YtheealjhmndbgaaDoorIK
import Derived.Deep.CutRange
import Derived.Deep.DeepCutAuto
namespace Go.Proofs.YtheealjhmndbgaaDoor
open Go.RowKit
set_option linter.unusedVariables false

/-- From which number to which A may be, of each kind. -/
def spanX (loc n words : Int) (k : Nat) : Int × Int := if k = 0 then (0, 0) else if k = 1 then (1, words) else if k = 2 then (0, n - 1) else if k = 3 then (1, 16) else (0, wrap64 (loc - 1))
def fitX (loc n words : Int) (i : Nat) (x : Xi) : Bool := isOpX x.op && decide ((spanX loc n words (kindX x.op)).1 ≤ x.a ∧ x.a ≤ (spanX loc n words (kindX x.op)).2) && !(decide (x.op = 12) && decide (0 < i)) && (decide (x.op = 1) || decide (x.w = 0))
def FitAll (L : List Xi) (words : Int) : Prop := ∀ i x, L[i]? = some x → fitX (locX L) L.length words i x = true
/-- f answers whether all are fit. -/
def TellsF (L : List Xi) (words : Int) (w : World) (e : Ending) (w' : World) : Prop := ∃ r : Bool, e = .returned (.bool r) ∧ (r = true ↔ FitAll L words) ∧ Mod [] w w'
/-- Five spans in block p. -/
def SpanAt (w : World) (p : Nat) (loc n words : Int) : Prop := ∀ k, k ≤ 4 → w.cell? ⟨p, k * 2, none⟩ = some (.int .i64 (spanX loc n words k).1) ∧ w.cell? ⟨p, k * 2 + 1, none⟩ = some (.int .i64 (spanX loc n words k).2)
theorem SpanAt.far {w w' : World} {p : Nat} {loc n words : Int} (h : SpanAt w p loc n words) (m : Mod [] w w') : SpanAt w' p loc n words := fun k hk => ⟨m.cell (by simp) (h k hk).1, m.cell (by simp) (h k hk).2⟩
abbrev spanC (loc n words : Int) : Array Value := #[.int .i64 0, .int .i64 0, .int .i64 1, .int .i64 words, .int .i64 0, .int .i64 (n - 1), .int .i64 1, .int .i64 16, .int .i64 0, .int .i64 (wrap64 (loc - 1))]
theorem span_new (w : World) (loc n words m : Int) (hm : m = wrap64 (loc - 1)) (t : TypeId) : SpanAt (w.alloc (.cells #[.int .i64 0, .int .i64 0, .int .i64 1, .int .i64 words, .int .i64 0, .int .i64 (n - 1), .int .i64 1, .int .i64 16, .int .i64 0, .int .i64 m] t)) w.heap.size loc n words := fun k hk => by
  subst hm
  rw [World.cell?_alloc_new, World.cell?_alloc_new]
  match k, hk with
  | 0, _ => exact ⟨rfl, rfl⟩
  | 1, _ => exact ⟨rfl, rfl⟩
  | 2, _ => exact ⟨rfl, rfl⟩
  | 3, _ => exact ⟨rfl, rfl⟩
  | 4, _ => exact ⟨rfl, rfl⟩
structure Z10 (w : World) (p : Nat) : Prop where
  c0 : w.cell? ⟨p, 0, none⟩ = some (.int .i64 0)
  c1 : w.cell? ⟨p, 1, none⟩ = some (.int .i64 0)
  c2 : w.cell? ⟨p, 2, none⟩ = some (.int .i64 0)
  c3 : w.cell? ⟨p, 3, none⟩ = some (.int .i64 0)
  c4 : w.cell? ⟨p, 4, none⟩ = some (.int .i64 0)
  c5 : w.cell? ⟨p, 5, none⟩ = some (.int .i64 0)
  c6 : w.cell? ⟨p, 6, none⟩ = some (.int .i64 0)
  c7 : w.cell? ⟨p, 7, none⟩ = some (.int .i64 0)
  c8 : w.cell? ⟨p, 8, none⟩ = some (.int .i64 0)
  c9 : w.cell? ⟨p, 9, none⟩ = some (.int .i64 0)
  f0 : w.frozen? ⟨p, 0, none⟩ = false
  f1 : w.frozen? ⟨p, 1, none⟩ = false
  f2 : w.frozen? ⟨p, 2, none⟩ = false
  f3 : w.frozen? ⟨p, 3, none⟩ = false
  f4 : w.frozen? ⟨p, 4, none⟩ = false
  f5 : w.frozen? ⟨p, 5, none⟩ = false
  f6 : w.frozen? ⟨p, 6, none⟩ = false
  f7 : w.frozen? ⟨p, 7, none⟩ = false
  f8 : w.frozen? ⟨p, 8, none⟩ = false
  f9 : w.frozen? ⟨p, 9, none⟩ = false
  hp : w.heap[p]? = some (.cells #[.int .i64 0, .int .i64 0, .int .i64 0, .int .i64 0, .int .i64 0, .int .i64 0, .int .i64 0, .int .i64 0, .int .i64 0, .int .i64 0] 62 (0, 0))
theorem Z10.of {w : World} {p : Nat} (hp : w.heap[p]? = some (.cells #[.int .i64 0, .int .i64 0, .int .i64 0, .int .i64 0, .int .i64 0, .int .i64 0, .int .i64 0, .int .i64 0, .int .i64 0, .int .i64 0] 62 (0, 0))) : Z10 w p := by
  have hc : ∀ k, k < 10 → w.cell? ⟨p, k, none⟩ = some (.int .i64 0) := fun k hk => by
    simp only [World.cell?, hp]
    match k, hk with
    | 0, _ | 1, _ | 2, _ | 3, _ | 4, _ | 5, _ | 6, _ | 7, _ | 8, _ | 9, _ => rfl
  have hf : ∀ k, w.frozen? ⟨p, k, none⟩ = false := fun k => by simp only [World.frozen?, hp]; rfl
  exact ⟨hc 0 (by decide), hc 1 (by decide), hc 2 (by decide), hc 3 (by decide), hc 4 (by decide), hc 5 (by decide), hc 6 (by decide), hc 7 (by decide), hc 8 (by decide), hc 9 (by decide), hf 0, hf 1, hf 2, hf 3, hf 4, hf 5, hf 6, hf 7, hf 8, hf 9, hp⟩
theorem span_stored {w : World} {p : Nat} (z : Z10 w p) (words n m loc : Int) (hm : m = wrap64 (loc - 1)) : SpanAt ((((((((((w.setCell ⟨p, 0, none⟩ (.int .i64 0)).setCell ⟨p, 1, none⟩ (.int .i64 0)).setCell ⟨p, 2, none⟩ (.int .i64 1)).setCell ⟨p, 3, none⟩ (.int .i64 words)).setCell ⟨p, 4, none⟩ (.int .i64 0)).setCell ⟨p, 5, none⟩ (.int .i64 (n - 1))).setCell ⟨p, 6, none⟩ (.int .i64 1)).setCell ⟨p, 7, none⟩ (.int .i64 16)).setCell ⟨p, 8, none⟩ (.int .i64 0)).setCell ⟨p, 9, none⟩ (.int .i64 m)) p loc n words := by
  have h0 : (w.setCell ⟨p, 0, none⟩ (.int .i64 0)).heap[p]? = some (.cells #[.int .i64 0, .int .i64 0, .int .i64 0, .int .i64 0, .int .i64 0, .int .i64 0, .int .i64 0, .int .i64 0, .int .i64 0, .int .i64 0] 62 (0, 0)) := heap_setCell_same w p 0 _ _ _ z.hp
  have h1 : ((w.setCell ⟨p, 0, none⟩ (.int .i64 0)).setCell ⟨p, 1, none⟩ (.int .i64 0)).heap[p]? = some (.cells #[.int .i64 0, .int .i64 0, .int .i64 0, .int .i64 0, .int .i64 0, .int .i64 0, .int .i64 0, .int .i64 0, .int .i64 0, .int .i64 0] 62 (0, 0)) := heap_setCell_same (w.setCell ⟨p, 0, none⟩ (.int .i64 0)) p 1 _ _ _ h0
  have h2 : (((w.setCell ⟨p, 0, none⟩ (.int .i64 0)).setCell ⟨p, 1, none⟩ (.int .i64 0)).setCell ⟨p, 2, none⟩ (.int .i64 1)).heap[p]? = some (.cells #[.int .i64 0, .int .i64 0, .int .i64 1, .int .i64 0, .int .i64 0, .int .i64 0, .int .i64 0, .int .i64 0, .int .i64 0, .int .i64 0] 62 (0, 0)) := heap_setCell_same ((w.setCell ⟨p, 0, none⟩ (.int .i64 0)).setCell ⟨p, 1, none⟩ (.int .i64 0)) p 2 _ _ _ h1
  have h3 : ((((w.setCell ⟨p, 0, none⟩ (.int .i64 0)).setCell ⟨p, 1, none⟩ (.int .i64 0)).setCell ⟨p, 2, none⟩ (.int .i64 1)).setCell ⟨p, 3, none⟩ (.int .i64 words)).heap[p]? = some (.cells #[.int .i64 0, .int .i64 0, .int .i64 1, .int .i64 words, .int .i64 0, .int .i64 0, .int .i64 0, .int .i64 0, .int .i64 0, .int .i64 0] 62 (0, 0)) := heap_setCell_same (((w.setCell ⟨p, 0, none⟩ (.int .i64 0)).setCell ⟨p, 1, none⟩ (.int .i64 0)).setCell ⟨p, 2, none⟩ (.int .i64 1)) p 3 _ _ _ h2
  have h4 : (((((w.setCell ⟨p, 0, none⟩ (.int .i64 0)).setCell ⟨p, 1, none⟩ (.int .i64 0)).setCell ⟨p, 2, none⟩ (.int .i64 1)).setCell ⟨p, 3, none⟩ (.int .i64 words)).setCell ⟨p, 4, none⟩ (.int .i64 0)).heap[p]? = some (.cells #[.int .i64 0, .int .i64 0, .int .i64 1, .int .i64 words, .int .i64 0, .int .i64 0, .int .i64 0, .int .i64 0, .int .i64 0, .int .i64 0] 62 (0, 0)) := heap_setCell_same ((((w.setCell ⟨p, 0, none⟩ (.int .i64 0)).setCell ⟨p, 1, none⟩ (.int .i64 0)).setCell ⟨p, 2, none⟩ (.int .i64 1)).setCell ⟨p, 3, none⟩ (.int .i64 words)) p 4 _ _ _ h3
  have h5 : ((((((w.setCell ⟨p, 0, none⟩ (.int .i64 0)).setCell ⟨p, 1, none⟩ (.int .i64 0)).setCell ⟨p, 2, none⟩ (.int .i64 1)).setCell ⟨p, 3, none⟩ (.int .i64 words)).setCell ⟨p, 4, none⟩ (.int .i64 0)).setCell ⟨p, 5, none⟩ (.int .i64 (n - 1))).heap[p]? = some (.cells #[.int .i64 0, .int .i64 0, .int .i64 1, .int .i64 words, .int .i64 0, .int .i64 (n - 1), .int .i64 0, .int .i64 0, .int .i64 0, .int .i64 0] 62 (0, 0)) := heap_setCell_same (((((w.setCell ⟨p, 0, none⟩ (.int .i64 0)).setCell ⟨p, 1, none⟩ (.int .i64 0)).setCell ⟨p, 2, none⟩ (.int .i64 1)).setCell ⟨p, 3, none⟩ (.int .i64 words)).setCell ⟨p, 4, none⟩ (.int .i64 0)) p 5 _ _ _ h4
  have h6 : (((((((w.setCell ⟨p, 0, none⟩ (.int .i64 0)).setCell ⟨p, 1, none⟩ (.int .i64 0)).setCell ⟨p, 2, none⟩ (.int .i64 1)).setCell ⟨p, 3, none⟩ (.int .i64 words)).setCell ⟨p, 4, none⟩ (.int .i64 0)).setCell ⟨p, 5, none⟩ (.int .i64 (n - 1))).setCell ⟨p, 6, none⟩ (.int .i64 1)).heap[p]? = some (.cells #[.int .i64 0, .int .i64 0, .int .i64 1, .int .i64 words, .int .i64 0, .int .i64 (n - 1), .int .i64 1, .int .i64 0, .int .i64 0, .int .i64 0] 62 (0, 0)) := heap_setCell_same ((((((w.setCell ⟨p, 0, none⟩ (.int .i64 0)).setCell ⟨p, 1, none⟩ (.int .i64 0)).setCell ⟨p, 2, none⟩ (.int .i64 1)).setCell ⟨p, 3, none⟩ (.int .i64 words)).setCell ⟨p, 4, none⟩ (.int .i64 0)).setCell ⟨p, 5, none⟩ (.int .i64 (n - 1))) p 6 _ _ _ h5
  have h7 : ((((((((w.setCell ⟨p, 0, none⟩ (.int .i64 0)).setCell ⟨p, 1, none⟩ (.int .i64 0)).setCell ⟨p, 2, none⟩ (.int .i64 1)).setCell ⟨p, 3, none⟩ (.int .i64 words)).setCell ⟨p, 4, none⟩ (.int .i64 0)).setCell ⟨p, 5, none⟩ (.int .i64 (n - 1))).setCell ⟨p, 6, none⟩ (.int .i64 1)).setCell ⟨p, 7, none⟩ (.int .i64 16)).heap[p]? = some (.cells #[.int .i64 0, .int .i64 0, .int .i64 1, .int .i64 words, .int .i64 0, .int .i64 (n - 1), .int .i64 1, .int .i64 16, .int .i64 0, .int .i64 0] 62 (0, 0)) := heap_setCell_same (((((((w.setCell ⟨p, 0, none⟩ (.int .i64 0)).setCell ⟨p, 1, none⟩ (.int .i64 0)).setCell ⟨p, 2, none⟩ (.int .i64 1)).setCell ⟨p, 3, none⟩ (.int .i64 words)).setCell ⟨p, 4, none⟩ (.int .i64 0)).setCell ⟨p, 5, none⟩ (.int .i64 (n - 1))).setCell ⟨p, 6, none⟩ (.int .i64 1)) p 7 _ _ _ h6
  have h8 : (((((((((w.setCell ⟨p, 0, none⟩ (.int .i64 0)).setCell ⟨p, 1, none⟩ (.int .i64 0)).setCell ⟨p, 2, none⟩ (.int .i64 1)).setCell ⟨p, 3, none⟩ (.int .i64 words)).setCell ⟨p, 4, none⟩ (.int .i64 0)).setCell ⟨p, 5, none⟩ (.int .i64 (n - 1))).setCell ⟨p, 6, none⟩ (.int .i64 1)).setCell ⟨p, 7, none⟩ (.int .i64 16)).setCell ⟨p, 8, none⟩ (.int .i64 0)).heap[p]? = some (.cells #[.int .i64 0, .int .i64 0, .int .i64 1, .int .i64 words, .int .i64 0, .int .i64 (n - 1), .int .i64 1, .int .i64 16, .int .i64 0, .int .i64 0] 62 (0, 0)) := heap_setCell_same ((((((((w.setCell ⟨p, 0, none⟩ (.int .i64 0)).setCell ⟨p, 1, none⟩ (.int .i64 0)).setCell ⟨p, 2, none⟩ (.int .i64 1)).setCell ⟨p, 3, none⟩ (.int .i64 words)).setCell ⟨p, 4, none⟩ (.int .i64 0)).setCell ⟨p, 5, none⟩ (.int .i64 (n - 1))).setCell ⟨p, 6, none⟩ (.int .i64 1)).setCell ⟨p, 7, none⟩ (.int .i64 16)) p 8 _ _ _ h7
  have h9 : ((((((((((w.setCell ⟨p, 0, none⟩ (.int .i64 0)).setCell ⟨p, 1, none⟩ (.int .i64 0)).setCell ⟨p, 2, none⟩ (.int .i64 1)).setCell ⟨p, 3, none⟩ (.int .i64 words)).setCell ⟨p, 4, none⟩ (.int .i64 0)).setCell ⟨p, 5, none⟩ (.int .i64 (n - 1))).setCell ⟨p, 6, none⟩ (.int .i64 1)).setCell ⟨p, 7, none⟩ (.int .i64 16)).setCell ⟨p, 8, none⟩ (.int .i64 0)).setCell ⟨p, 9, none⟩ (.int .i64 m)).heap[p]? = some (.cells #[.int .i64 0, .int .i64 0, .int .i64 1, .int .i64 words, .int .i64 0, .int .i64 (n - 1), .int .i64 1, .int .i64 16, .int .i64 0, .int .i64 m] 62 (0, 0)) := heap_setCell_same (((((((((w.setCell ⟨p, 0, none⟩ (.int .i64 0)).setCell ⟨p, 1, none⟩ (.int .i64 0)).setCell ⟨p, 2, none⟩ (.int .i64 1)).setCell ⟨p, 3, none⟩ (.int .i64 words)).setCell ⟨p, 4, none⟩ (.int .i64 0)).setCell ⟨p, 5, none⟩ (.int .i64 (n - 1))).setCell ⟨p, 6, none⟩ (.int .i64 1)).setCell ⟨p, 7, none⟩ (.int .i64 16)).setCell ⟨p, 8, none⟩ (.int .i64 0)) p 9 _ _ _ h8
  intro k hk
  simp only [World.cell?, h9]
  match k, hk with
  | 0, _ => exact ⟨rfl, rfl⟩
  | 1, _ => exact ⟨rfl, rfl⟩
  | 2, _ => exact ⟨rfl, rfl⟩
  | 3, _ => exact ⟨rfl, rfl⟩
  | 4, _ => exact ⟨rfl, by rw [hm]; rfl⟩
theorem stored_mod {w0 w : World} {p : Nat} (h : Mod [] w0 w) (hp : w0.heap.size ≤ p) (words n m : Int) : Mod [] w0 ((((((((((w.setCell ⟨p, 0, none⟩ (.int .i64 0)).setCell ⟨p, 1, none⟩ (.int .i64 0)).setCell ⟨p, 2, none⟩ (.int .i64 1)).setCell ⟨p, 3, none⟩ (.int .i64 words)).setCell ⟨p, 4, none⟩ (.int .i64 0)).setCell ⟨p, 5, none⟩ (.int .i64 (n - 1))).setCell ⟨p, 6, none⟩ (.int .i64 1)).setCell ⟨p, 7, none⟩ (.int .i64 16)).setCell ⟨p, 8, none⟩ (.int .i64 0)).setCell ⟨p, 9, none⟩ (.int .i64 m)) := ((((((((((h.set (x := ⟨p, 0, none⟩) (Or.inr hp) _).set (x := ⟨p, 1, none⟩) (Or.inr hp) _).set (x := ⟨p, 2, none⟩) (Or.inr hp) _).set (x := ⟨p, 3, none⟩) (Or.inr hp) _).set (x := ⟨p, 4, none⟩) (Or.inr hp) _).set (x := ⟨p, 5, none⟩) (Or.inr hp) _).set (x := ⟨p, 6, none⟩) (Or.inr hp) _).set (x := ⟨p, 7, none⟩) (Or.inr hp) _).set (x := ⟨p, 8, none⟩) (Or.inr hp) _).set (x := ⟨p, 9, none⟩) (Or.inr hp) _)
set_option maxHeartbeats 20000000 in
set_option maxRecDepth 100000 in
theorem fit_calls {w : World} (g : Good w) {A : Option Addr} {n cap : Nat} {L : List Xi} (hL : InsAt w A L) (hn : n = L.length) (h0 : 0 < n) (hb : n ≤ 1000000) (words : Int) :
    Calls Tryd.prog 24 #[defV A n cap, .int .i64 words] w (TellsF L words w) := by
  have hM := Mod.refl [] w
  have hMw := hM.alloc (.cells #[.slice A n cap] 24)
  have HL := Lib.hid (fun (W : World) (m : Mod [] w W) => locals_calls (cap := cap) (hL.far m) hn h0)
  have HMw := Lib.hid hMw
  have hd : (w.alloc (.cells #[.slice A n cap] 24)).cell? ⟨w.heap.size, 0, none⟩ = some (.slice A n cap) := by rw [World.cell?_alloc_new]; rfl
  have hdZ := ((Mod.refl [] (w.alloc (.cells #[.slice A n cap] 24))).alloc (.cells #[.int .i64 0, .int .i64 0, .int .i64 0, .int .i64 0, .int .i64 0, .int .i64 0, .int .i64 0, .int .i64 0, .int .i64 0, .int .i64 0] 62)).cell (by simp) hd
  have HD := Lib.hid hd
  have hnI : (n : Int) ≤ 1000000 := by omega
  obtain ⟨ℓ, hℓ⟩ : ∃ ℓ, ℓ = locX L := ⟨_, rfl⟩
  rw [← hℓ] at HL
  have HN := Lib.hid (And.intro hn (And.intro h0 (And.intro hℓ hL)))
  obtain ⟨wl, hwl⟩ : ∃ wl, IntKind.i64.wrap (ℓ - 1) = wl := ⟨_, rfl⟩
  have HWl := Lib.hid (show wl = wrap64 (ℓ - 1) by rw [← hwl, IntKind.wrap_i64]; unfold wrap64; rfl)
  have hw : IntKind.i64.wrap ((n : Int) - 1) = (n : Int) - 1 := by rw [IntKind.wrap_i64]; omega
  clear hM hMw hd hn h0 hℓ hL
  go_enter Tryd.func24, Tryd.ntmps24
  go_upto_region 1 with fail
  go_cut [5] (fun u wc => ∃ p, u = .pointer (some ⟨p, 0, none⟩) ∧ RowKit.Hid (SpanAt wc p ℓ n words ∧ Mod [] (w.alloc (.cells #[.slice A n cap] 24)) wc))
  case first =>
    go_region_with (first
      | (go_at_call 29; (with_reducible refine (HL.out _ HMw.out.drew).mono ?_); rintro e w1 ⟨rfl, hm1⟩; have HM1 := Lib.hid ((Mod.refl [] (w.alloc (.cells #[.slice A n cap] 24))).drew.trans hm1); have hd1 := hm1.cell (by simp) HD.out; have hd1Z := ((Mod.refl [] w1).alloc (.cells #[.int .i64 0, .int .i64 0, .int .i64 0, .int .i64 0, .int .i64 0, .int .i64 0, .int .i64 0, .int .i64 0, .int .i64 0, .int .i64 0] 62)).cell (by simp) hd1; clear hm1)
      | (go_at_call 29; (with_reducible refine (HL.out _ (HMw.out.alloc _).drew).mono ?_); rintro e w1 ⟨rfl, hm1⟩; have HM1 := Lib.hid (((Mod.refl [] (w.alloc (.cells #[.slice A n cap] 24))).alloc _).drew.trans hm1); have hd1 := HM1.out.cell (by simp) HD.out; have z := Z10.of ((hm1.block (w.heap.size + 1) (by simp [World.drew]) (by simp)).trans (by rw [← size_allocI w (.cells #[.slice A n cap] 24)]; exact (MapKept.heap_alloc _ _).1)); have HZ := Lib.hid z; obtain ⟨c0, c1, c2, c3, c4, c5, c6, c7, c8, c9, f0, f1, f2, f3, f4, f5, f6, f7, f8, f9, _⟩ := z; clear hm1)
      | fail)
    all_goals
      go_wp2_with fail
      go_meet
      case rel => first
        | (have q := HZ.out; exact ⟨_, rfl, Lib.hid ⟨span_stored q words n wl ℓ HWl.out, stored_mod HM1.out (by rw [size_allocI]; exact Nat.le_refl _) words n wl⟩⟩)
        | exact ⟨_, rfl, Lib.hid ⟨span_new _ _ _ _ _ HWl.out _, HM1.out.alloc _⟩⟩
  case rest =>
    obtain ⟨p, rfl, hc⟩ := hcut
    clear hdZ hw hwl
    have hd1 := hc.out.2.cell (by simp) HD.out
    have HS := Lib.hid hc.out
    have HLx := Lib.hid (fun (W : World) (m : Mod [] w W) => HN.out.2.2.2.far m)
    clear hc HL
    go_wp2_with fail
    clear hd1
    go_loopg [25] n (fun g z wr => ∃ i : Nat, z = .int .i64 (i : Int) ∧ i + g = n ∧ RowKit.Hid (Mod [] wc wr ∧ ∀ j x, j < i → L[j]? = some x → fitX ℓ n words j x = true))
    case atStart => exact ⟨0, rfl, by omega, Lib.hid ⟨Mod.refl [] _, fun j x h => by omega⟩⟩
    case round =>
      obtain ⟨i, rfl, hig, hi⟩ := hrel
      by_cases hlt : i < n
      · have hltI : (i : Int) < (n : Int) := by omega
        obtain ⟨x, hx⟩ : ∃ x, L[i]? = some x := ⟨_, List.getElem?_eq_getElem (by have := HN.out.1; omega)⟩
        obtain ⟨B, off, rfl, hat, hwx⟩ := (HLx.out _ ((HMw.out.trans HS.out.2).trans hi.out.1)).get hx
        have hc0 := hat.c0
        have hc1 := hat.c1
        have hc2 := hat.c2
        have hm1 := (Mod.refl [] wr).alloc (.cells #[.int .u8 (x.op : Int), .int .i64 x.a, .int .i64 x.w] 36)
        have hx0 : (wr.alloc (.cells #[.int .u8 (x.op : Int), .int .i64 x.a, .int .i64 x.w] 36)).cell? ⟨wr.heap.size, 0, none⟩ = some (.int .u8 (x.op : Int)) := by rw [World.cell?_alloc_new]; rfl
        have hx1 : (wr.alloc (.cells #[.int .u8 (x.op : Int), .int .i64 x.a, .int .i64 x.w] 36)).cell? ⟨wr.heap.size, 1, none⟩ = some (.int .i64 x.a) := by rw [World.cell?_alloc_new]; rfl
        have hx2 : (wr.alloc (.cells #[.int .u8 (x.op : Int), .int .i64 x.a, .int .i64 x.w] 36)).cell? ⟨wr.heap.size, 2, none⟩ = some (.int .i64 x.w) := by rw [World.cell?_alloc_new]; rfl
        obtain ⟨fx, hfx⟩ : ∃ fx, fx = fitX ℓ n words i x := ⟨_, rfl⟩
        have HFX := Lib.hid hfx
        have HX := Lib.hid hx
        have HI := Lib.hid (And.intro (hi.out.1.trans hm1) hi.out.2)
        have HG := Lib.hid hig
        obtain ⟨io, hio⟩ : ∃ io, io = isOpX x.op := ⟨_, rfl⟩
        have k1 := fun W => isop_calls W x.op
        rw [← hio] at k1
        have H1 := Lib.hid k1
        have HIO := Lib.hid hio
        have g1 := (g.far ((HMw.out.trans HS.out.2).trans HI.out.1))
        have HG1 := Lib.hid g1
        have hsp := (HS.out.1.far HI.out.1) (kindX x.op) (kind_le _)
        obtain ⟨lo, hlo⟩ : ∃ lo, lo = (spanX ℓ n words (kindX x.op)).1 := ⟨_, rfl⟩
        obtain ⟨up, hup⟩ : ∃ up, up = (spanX ℓ n words (kindX x.op)).2 := ⟨_, rfl⟩
        rw [← hlo, ← hup] at hsp
        obtain ⟨hsp0, hsp1⟩ := hsp
        obtain ⟨isp, hisp⟩ : ∃ isp, isp = decide (lo ≤ x.a ∧ x.a ≤ up) := ⟨_, rfl⟩
        have hfit : fitX ℓ n words i x = (io && isp && !(decide (x.op = 12) && decide (0 < i)) && (decide (x.op = 1) || decide (x.w = 0))) := by rw [hio, hisp, hlo, hup]; rfl
        have HFIT := Lib.hid hfit
        have k2 := fun W => has_calls W lo up x.a
        rw [← hisp] at k2
        have H2 := Lib.hid k2
        obtain ⟨kd, hkd⟩ : ∃ kd, kd = kindX x.op := ⟨_, rfl⟩
        have hkd4 : kd ≤ 4 := by rw [hkd]; exact kind_le _
        rw [← hkd] at hsp0 hsp1
        have hkdI : (kd : Int) < 5 := by omega
        have HKD := Lib.hid hkd
        clear hi hx hat hwx hig hm1 hfx hio k1 g1 hlo hup hisp hfit k2 hkd hkd4
        have TF : fx = false → ¬ FitAll L words := fun hf h => by
          have := h i x HX.out
          rw [← HN.out.2.2.1, ← HN.out.1, ← HFX.out, hf] at this
          cases this
        have HTF := Lib.hid TF
        clear TF
        cases io with
        | false =>
          have hf : fx = false := by rw [HFX.out, HFIT.out]; rfl
          have HF := Lib.hid (HTF.out hf)
          clear hf
          go_wp2_with fail
          refine (H1.out _).mono ?_
          rintro e w4 ⟨rfl, rfl⟩
          go_wp2_with fail
          go_ret
          exact ⟨false, rfl, ⟨fun h => (by cases h), fun h => absurd h HF.out⟩, (HMw.out.trans HS.out.2).trans HI.out.1⟩
        | true =>
          have hopl : x.op < 16 := by have := HIO.out; unfold isOpX at this; have := of_decide_eq_true this.symm; omega
          have hopI : (x.op : Int) < 16 := by omega
          have hgk := HG1.out.k x.op hopl
          rw [← HKD.out] at hgk
          have hopl' := Lib.hid hopl
          clear hopl
          go_wp2_with fail
          refine (H1.out _).mono ?_
          rintro e w4 ⟨rfl, rfl⟩
          go_upto_region 6 with fail
          go_cut [25, 30] from 25 to 61 (fun y u wd => y = .int .i64 (i : Int) ∧ u = .bool (!isp) ∧ RowKit.Hid (Mod [] (wr.alloc (.cells #[.int .u8 (x.op : Int), .int .i64 x.a, .int .i64 x.w] 36)) wd))
          case first =>
            go_region_with (first
              | (go_at_call 31; (with_reducible refine (H2.out _).mono ?_); rintro e w5 ⟨rfl, hm5⟩; have HM5 := Lib.hid hm5; clear hm5)
              | fail)
            all_goals
              go_wp2_with fail
              go_meet
              case rel => exact ⟨rfl, rfl, Lib.hid ((Mod.refl [] _).drew.trans HM5.out)⟩
          case rest =>
            obtain ⟨rfl, rfl, hd⟩ := hcut
            have HD2 := Lib.hid (HI.out.1.trans hd.out)
            have hy0 := hd.out.cell (by simp) hx0
            have hy2 := hd.out.cell (by simp) hx2
            clear hd hc0 hc1 hc2 hx0 hx1 hx2 hsp0 hsp1 hgk H1 H2
            have HEND := Lib.hid ((HMw.out.trans HS.out.2).trans HD2.out)
            cases isp with
            | false =>
              have hf : fx = false := by rw [HFX.out, HFIT.out]; simp
              have HF := Lib.hid (HTF.out hf)
              clear hf
              go_wp2_with fail
              go_ret
              exact ⟨false, rfl, ⟨fun h => (by cases h), fun h => absurd h HF.out⟩, HEND.out⟩
            | true =>
              have hu12 : x.op = 12 ∨ ¬ x.op = 12 := Classical.em _
              have hui : 0 < i ∨ ¬ 0 < i := Classical.em _
              have hu1 : x.op = 1 ∨ ¬ x.op = 1 := Classical.em _
              have huw : x.w = 0 ∨ ¬ x.w = 0 := Classical.em _
              by_cases q12 : x.op = 12
              · have b12 : ((x.op : Int) == 12) = true := by rw [q12]; rfl
                have b1 : ((x.op : Int) != 1) = true := by rw [q12]; rfl
                by_cases qi : 0 < i
                · have bi : decide ((0 : Int) < (i : Int)) = true := decide_eq_true (by omega)
                  have bi2 : decide (0 < i) = true := decide_eq_true qi
                  have hf : fx = false := by rw [HFX.out, HFIT.out]; simp [q12, qi]
                  have HF := Lib.hid (HTF.out hf)
                  clear hf hu12 hui hu1 huw
                  go_wp2_with fail
                  go_ret
                  exact ⟨false, rfl, ⟨fun h => (by cases h), fun h => absurd h HF.out⟩, HEND.out⟩
                · have bi : decide ((0 : Int) < (i : Int)) = false := decide_eq_false (by omega)
                  have bi2 : decide (0 < i) = false := decide_eq_false qi
                  by_cases qw : x.w = 0
                  · have bw : (x.w != 0) = false := by rw [qw]; rfl
                    have hf : fitX ℓ n words i x = true := by rw [HFIT.out]; simp [q12, qi, qw]
                    have HF := Lib.hid hf
                    clear hf hu12 hui hu1 huw
                    go_wp2_with fail
                    go_roundg (gk - 1)
                    case measure => have := HG.out; omega
                    case rel =>
                      refine ⟨i + 1, by go_num, by have := HG.out; omega, Lib.hid ⟨HD2.out, fun j y hj hy => ?_⟩⟩
                      by_cases e : j = i
                      · subst e
                        have := HX.out
                        rw [hy] at this
                        injection this with this
                        subst this
                        exact HF.out
                      · exact HI.out.2 j y (by omega) hy
                  · have bw : (x.w != 0) = true := by simpa using qw
                    have hf : fx = false := by rw [HFX.out, HFIT.out]; simp [q12, qw]
                    have HF := Lib.hid (HTF.out hf)
                    clear hf hu12 hui hu1 huw
                    go_wp2_with fail
                    go_ret
                    exact ⟨false, rfl, ⟨fun h => (by cases h), fun h => absurd h HF.out⟩, HEND.out⟩
              · have b12 : ((x.op : Int) == 12) = false := by rw [beq_eq_false_iff_ne]; omega
                by_cases q1 : x.op = 1
                · have b1 : ((x.op : Int) != 1) = false := by rw [q1]; rfl
                  have hf : fitX ℓ n words i x = true := by rw [HFIT.out]; simp [q1]
                  have HF := Lib.hid hf
                  clear hf hu12 hui hu1 huw
                  go_wp2_with fail
                  go_roundg (gk - 1)
                  case measure => have := HG.out; omega
                  case rel =>
                    refine ⟨i + 1, by go_num, by have := HG.out; omega, Lib.hid ⟨HD2.out, fun j y hj hy => ?_⟩⟩
                    by_cases e : j = i
                    · subst e
                      have := HX.out
                      rw [hy] at this
                      injection this with this
                      subst this
                      exact HF.out
                    · exact HI.out.2 j y (by omega) hy
                · have b1 : ((x.op : Int) != 1) = true := by rw [bne_iff_ne]; omega
                  by_cases qw : x.w = 0
                  · have bw : (x.w != 0) = false := by rw [qw]; rfl
                    have hf : fitX ℓ n words i x = true := by rw [HFIT.out]; simp [q12, q1, qw]
                    have HF := Lib.hid hf
                    clear hf hu12 hui hu1 huw
                    go_wp2_with fail
                    go_roundg (gk - 1)
                    case measure => have := HG.out; omega
                    case rel =>
                      refine ⟨i + 1, by go_num, by have := HG.out; omega, Lib.hid ⟨HD2.out, fun j y hj hy => ?_⟩⟩
                      by_cases e : j = i
                      · subst e
                        have := HX.out
                        rw [hy] at this
                        injection this with this
                        subst this
                        exact HF.out
                      · exact HI.out.2 j y (by omega) hy
                  · have bw : (x.w != 0) = true := by simpa using qw
                    have hf : fx = false := by rw [HFX.out, HFIT.out]; simp [q12, q1, qw]
                    have HF := Lib.hid (HTF.out hf)
                    clear hf hu12 hui hu1 huw
                    go_wp2_with fail
                    go_ret
                    exact ⟨false, rfl, ⟨fun h => (by cases h), fun h => absurd h HF.out⟩, HEND.out⟩
      · have hltI : ¬ (i : Int) < (n : Int) := by omega
        have hin : i = n := by omega
        have HI := Lib.hid hi.out
        have hfit : FitAll L words := fun j x hx => by
          have hj := (List.getElem?_eq_some_iff.1 hx).1
          have := HI.out.2 j x (by have := HN.out.1; omega) hx
          rw [← HN.out.2.2.1, ← HN.out.1]
          exact this
        have HF := Lib.hid hfit
        clear hi hin hfit
        go_wp2_with fail
        go_ret
        exact ⟨true, rfl, ⟨fun _ => HF.out, fun _ => rfl⟩, (HMw.out.trans HS.out.2).trans HI.out.1⟩
end Go.Proofs.YtheealjhmndbgaaDoor
