/- Layer 13: a state in memory: its blocks, its stack, its memory, what was told, what is made; the operations that it holds. Making one. No condition but the size's. Layer 13: Stack, Mem, Out, Base, Say of a state. Condition: it is one. Layer 13: Do, whatever the operation: it takes its cells, does what it does, and puts what comes of it; or else leaves all as it was. Condition: what the operation does is given. Layer 13: Do of an operation that there is. Condition: what the operation does is given. Layer 13: actions of one shape: what a closure over a function of a cell does, and over one of two cells. Condition: the function's contract is given. -/
import Derived.Test.YtifnkmddinoneaaGreatDoorCBAJ
import Derived.Test.YtifnkmddinoneaaGreatDoorCBAL
import Derived.Test.YtifnkmddinoneaaGreatDoorCBAM
import Derived.Lib.MinMax
import Derived.Deep.DeepCutAuto
import Derived.Deep.CutBlock
import Derived.Deep.RegionHeld3
set_option maxRecDepth 100000
namespace Go.Proofs.YtifnkmddinoneaaGreatDoor
open Go.RowKit
set_option linter.unusedVariables false

theorem Good.mod {S : List Nat} {w w' : World} (g : Good w) (k : Mod S w w') (hS : ∀ x ∈ S, 6 ≤ x) : Good w' := by
  have hs := g.big
  have hv : ∀ (n : String) (i : Nat), Tryz.prog.globalNamed n = some i → i < 6 → w'.var? Tryz.prog n = w.var? Tryz.prog n := fun n i hi hl => by
    unfold World.var?
    rw [hi]
    show (match w'.heap[i]? with | some (.cells cs _ _) => some cs | _ => none) = _
    rw [k.block i (by omega) (fun hx => by have := hS i hx; omega)]
    rfl
  refine ⟨Nat.le_trans g.big k.size, ?_, ?_⟩
  · exact (hv _ 5 (by kernel_rfl) (by omega)).trans g.pow
  · exact (hv _ 4 (by kernel_rfl) (by omega)).trans g.bru
structure Mu where
  B : List UInt8
  h : Int
  O : List UInt8
  K : List UInt8
structure Ad where
  s : Nat
  p : Nat
  m : Nat
  q : Nat
  lo : Nat
  hi : Nat
  M : Nat
def Rw (w : World) (a : Ad) (T : List Nat) (v : Value) (X : List UInt8) : Prop :=
  w.ownsRow 0 5 1 v X.length (u8s X) ∧ ∀ g, v.ownBlock = some g → g ∈ T ∧ g ≠ a.s ∧ g ≠ a.p ∧ g ≠ a.m ∧ g ≠ a.q
structure Stt (w : World) (a : Ad) (T : List Nat) (C : List Int) (μ : Mu) : Prop where
  c0 : w.cell? ⟨a.s, 0, none⟩ = some (Pt a.p)
  c1 : w.cell? ⟨a.s, 1, none⟩ = some (Pt a.m)
  c2 : ∃ A n c, w.cell? ⟨a.s, 2, none⟩ = some (.slice A n c) ∧ Rw w a T (.slice A n c) μ.O
  c3 : w.cell? ⟨a.s, 3, none⟩ = some (.string (str μ.K))
  c4 : w.cell? ⟨a.s, 4, none⟩ = some (.map (some a.M))
  f : ∀ i, w.frozen? ⟨a.s, i, none⟩ = false
  ls : a.s < w.heap.size
  st : St w a.p C
  mm : Mm w a.m a.q μ.B μ.h
  ops : ∃ w1 : World, w1.heap.size = a.hi ∧ Grp w1 a.lo a.s a.m a.M (fun n => 1 ≤ n ∧ n ≤ 107) ∧ ∀ k, a.lo ≤ k → k < a.hi → w.heap[k]? = w1.heap[k]?
  hi : a.hi ≤ w.heap.size
  t : ∀ x ∈ T, x < a.lo ∨ a.hi ≤ x
  tl : ∀ x ∈ T, x < w.heap.size
  ts : a.s ∈ T ∧ a.p ∈ T ∧ a.m ∈ T ∧ a.q ∈ T
  ne : a.s ≠ a.p ∧ a.s ≠ a.m ∧ a.s ≠ a.q ∧ a.p ≠ a.m ∧ a.p ≠ a.q ∧ a.m ≠ a.q
  low : a.s < a.lo ∧ a.p < a.lo ∧ a.m < a.lo ∧ a.q < a.lo
  good : Good w
  gt : ∀ x ∈ T, 6 ≤ x
  lO : μ.O.length ≤ 4000
  lK : μ.K.length ≤ 200
structure Tn (T T' : List Nat) (w w' : World) : Prop where
  m : Mod T w w'
  up : ∀ x ∈ T, x ∈ T'
  new : ∀ x ∈ T', x ∈ T ∨ w.heap.size ≤ x
theorem Tn.refl (T : List Nat) (w : World) : Tn T T w w := ⟨Mod.refl _ _, fun _ h => h, fun _ h => Or.inl h⟩
theorem Tn.trans {T U V : List Nat} {a b c : World} (h : Tn T U a b) (k : Tn U V b c) : Tn T V a c :=
  ⟨h.m.then k.m h.new, fun x hx => k.up x (h.up x hx), fun x hx => (k.new x hx).elim (h.new x) fun hb => Or.inr (Nat.le_trans h.m.size hb)⟩
theorem Tn.of_mod {S T : List Nat} {w w' : World} (h : Mod S w w') (hS : ∀ x ∈ S, x ∈ T) : Tn T T w w' := ⟨h.up hS, fun _ h => h, fun _ h => Or.inl h⟩
theorem Tn.far {T : List Nat} {w w' : World} (h : Mod [] w w') : Tn T T w w' := .of_mod h (by simp)
theorem row_same {w w' : World} {v : Value} {n : Nat} {xs : List Value} {t : TypeId} (h : w.ownsRow 0 t 1 v n xs) (e : ∀ g, v.ownBlock = some g → w'.heap[g]? = w.heap[g]?) : w'.ownsRow 0 t 1 v n xs := by
  refine ⟨h.1, h.2.elim Or.inl fun ⟨g, cap, cur, h1, h2, h3, h4⟩ => Or.inr ⟨g, cap, cur, h1, h2, ?_, h4⟩⟩
  rw [e g (by rw [h1]; rfl)]; exact h3
theorem row_lt {w : World} {v : Value} {n : Nat} {xs : List Value} {t : TypeId} (h : w.ownsRow 0 t 1 v n xs) (g : Nat) (hg : v.ownBlock = some g) : g < w.heap.size := by
  rcases h.2 with ⟨rfl, _⟩ | ⟨g', cap, cur, rfl, h2, h3, _⟩
  · cases hg
  · obtain rfl : g' = g := by injection hg
    exact (Array.getElem?_eq_some_iff.1 h3).1
theorem Rw.mod {S : List Nat} {w w' : World} {a : Ad} {T : List Nat} {v : Value} {X : List UInt8} (h : Rw w a T v X) (k : Mod S w w') (hS : ∀ x ∈ S, x ∉ T ∨ x = a.s ∨ x = a.p ∨ x = a.m ∨ x = a.q) : Rw w' a T v X := by
  refine ⟨row_same h.1 fun g hg => k.block g (row_lt h.1 g hg) fun hs => ?_, h.2⟩
  obtain ⟨h1, h2, h3, h4, h5⟩ := h.2 g hg
  rcases hS g hs with e | e | e | e | e
  · exact e h1
  · exact h2 e
  · exact h3 e
  · exact h4 e
  · exact h5 e
theorem Mm.mod {S : List Nat} {w w' : World} {p q : Nat} {B : List UInt8} {h : Int} (m : Mm w p q B h) (k : Mod S w w') (hp : p ∉ S) (hq : q ∉ S) : Mm w' p q B h :=
  ⟨k.cell hp m.c0, k.cell hp m.c1, (k.frozen (x := ⟨p, 1, none⟩) hp m.lp).trans m.f1, fun i hi => k.cell hq (m.bs i hi), fun i => (k.frozen (x := ⟨q, i, none⟩) hq m.lq).trans (m.fb i), m.ne, Nat.lt_of_lt_of_le m.lp k.size, Nat.lt_of_lt_of_le m.lq k.size, m.lo, m.hi, m.h0, m.h1⟩
theorem Kept.mod {p q : Nat} {w w' : World} (k : Kept p q w w') : Mod [p, q] w w' := ⟨k.os, k.tape, k.output, k.size, fun i hi hs => k.block i hi (fun e => hs (by simp [e])) (fun e => hs (by simp [e]))⟩
variable {w w' : World} {a : Ad} {T : List Nat} {C : List Int} {μ : Mu}
theorem Stt.boxes {S : List Nat} (h : Stt w a T C μ) (k : Mod S w w') (hS : ∀ x ∈ S, x < a.lo ∨ a.hi ≤ x) : ∃ w1 : World, w1.heap.size = a.hi ∧ Grp w1 a.lo a.s a.m a.M (fun n => 1 ≤ n ∧ n ≤ 107) ∧ ∀ k, a.lo ≤ k → k < a.hi → w'.heap[k]? = w1.heap[k]? := by
  obtain ⟨w1, h1, h2, h3⟩ := h.ops
  refine ⟨w1, h1, h2, fun j hj hj2 => ?_⟩
  rw [k.block j (Nat.lt_of_lt_of_le hj2 h.hi) fun hs => by have := hS j hs; omega]
  exact h3 j hj hj2
theorem Stt.other {S : List Nat} (h : Stt w a T C μ) (k : Mod S w w') (hT : ∀ x ∈ S, x ∉ T) (hS : ∀ x ∈ S, x < a.lo ∨ a.hi ≤ x) (h5 : ∀ x ∈ S, 6 ≤ x) : Stt w' a T C μ := by
  have n1 : a.s ∉ S := fun e => hT _ e h.ts.1
  have n2 : a.p ∉ S := fun e => hT _ e h.ts.2.1
  have n3 : a.m ∉ S := fun e => hT _ e h.ts.2.2.1
  have n4 : a.q ∉ S := fun e => hT _ e h.ts.2.2.2
  obtain ⟨A, n, c, e1, e2⟩ := h.c2
  exact ⟨k.cell n1 h.c0, k.cell n1 h.c1, ⟨A, n, c, k.cell n1 e1, e2.mod k fun x hx => Or.inl (hT x hx)⟩, k.cell n1 h.c3, k.cell n1 h.c4, fun i => (k.frozen (x := ⟨a.s, i, none⟩) n1 h.ls).trans (h.f i), Nat.lt_of_lt_of_le h.ls k.size, h.st.mod k n2, h.mm.mod k n3 n4, h.boxes k hS, Nat.le_trans h.hi k.size, h.t, (fun x hx => Nat.lt_of_lt_of_le (h.tl x hx) k.size), h.ts, h.ne, h.low, h.good.mod k h5, h.gt, h.lO, h.lK⟩
theorem Stt.far (h : Stt w a T C μ) (k : Mod [] w w') : Stt w' a T C μ := h.other k (by simp) (by simp) (by simp)
theorem Stt.stack (h : Stt w a T C μ) (k : Mod [a.p] w w') {C' : List Int} (hs : St w' a.p C') : Stt w' a T C' μ := by
  have n1 : a.s ∉ [a.p] := by simpa using h.ne.1
  have n3 : a.m ∉ [a.p] := by simpa using Ne.symm h.ne.2.2.2.1
  have n4 : a.q ∉ [a.p] := by simpa using Ne.symm h.ne.2.2.2.2.1
  obtain ⟨A, n, c, e1, e2⟩ := h.c2
  exact ⟨k.cell n1 h.c0, k.cell n1 h.c1, ⟨A, n, c, k.cell n1 e1, e2.mod k fun x hx => by simp at hx; simp [hx]⟩, k.cell n1 h.c3, k.cell n1 h.c4, fun i => (k.frozen (x := ⟨a.s, i, none⟩) n1 h.ls).trans (h.f i), Nat.lt_of_lt_of_le h.ls k.size, hs, h.mm.mod k n3 n4, h.boxes k fun x hx => by simp at hx; rw [hx]; exact h.t _ h.ts.2.1, Nat.le_trans h.hi k.size, h.t, (fun x hx => Nat.lt_of_lt_of_le (h.tl x hx) k.size), h.ts, h.ne, h.low, h.good.mod k (fun x hx => by simp at hx; rw [hx]; exact h.gt _ h.ts.2.1), h.gt, h.lO, h.lK⟩
theorem cell_other {w : World} {b i j : Nat} {v u : Value} (hc : w.cell? ⟨b, j, none⟩ = some u) (hij : i ≠ j) : (w.setCell ⟨b, i, none⟩ v).cell? ⟨b, j, none⟩ = some u := by
  rw [World.cell?_setCell_other (h := by intro e; injection e with _ e; exact hij e)]; exact hc
theorem Stt.box_ne (h : Stt w a T C μ) {b : Nat} (hb : a.lo ≤ b) (hb2 : b < a.hi) : b ∉ T := fun hx => by have := h.t b hx; omega
def B0 (n : Nat) : List UInt8 := splice (zeros n) 0 (le8 10)
def mu0 (n : Nat) : Mu := ⟨B0 n, 8, [], []⟩
def tsOf (a : Ad) : List Nat := [a.s, a.p, a.m, a.q]
def NewS (n : Nat) (w : World) (e : Ending) (w' : World) : Prop := ∃ a, e = .returned (.tuple #[Pt a.s, .int .i64 0]) ∧ Stt w' a (tsOf a) [] (mu0 n) ∧ Mod [] w w' ∧ (∀ x ∈ tsOf a, w.heap.size ≤ x) ∧ w.heap.size ≤ a.lo
def st5 (p m : Nat) (v : Value) : Array Value := #[Pt p, Pt m, .slice none 0 0, .string ⟨#[]⟩, v]
theorem st5_at (w : World) (p m : Nat) (v : Value) (t : TypeId) (i : Nat) (u : Value) (h : (st5 p m v)[i]? = some u) : (w.alloc (.cells (st5 p m v) t)).cell? ⟨w.heap.size, i, none⟩ = some u := by
  rw [World.cell?_alloc_new]; exact h
set_option maxHeartbeats 4000000 in
set_option maxRecDepth 100000 in
theorem new_calls13 (n : Nat) (w : World) (hg : Good w) (h0 : 1024 ≤ n) (h1 : n ≤ 65536) (h8 : n % 8 = 0) : Calls Tryz.prog 24 #[.int .i64 (n : Int)] w (NewS n w) := by
  have HGd := Lib.hid hg
  clear hg
  have HN := Lib.hid (fun W => new_ok n W h0 h1 h8)
  have H1 := Lib.hid h0
  clear h0 h1 h8
  go_enter Tryz.func24, Tryz.ntmps24
  go_wp2_with fail
  refine (HN.out _).mono ?_
  rintro e w1 ⟨m, q, rfl, hm, hx, hmw, hqw⟩
  have hzl : (zeros n).length = n := by simp [zeros]
  have HC := Lib.hid (comma_ok hm 10 (by unfold I64; omega) rfl (by have := H1.out; unfold inH; rw [hzl]; simp; omega))
  have M1 := Mod.of_below hx.1
  have HX := Lib.hid (And.intro M1 (And.intro hmw (And.intro hqw hm.ne)))
  clear HN hm hx hmw hqw M1
  go_wp2_with fail
  refine HC.out.mono ?_
  rintro e w2 ⟨rfl, hm2, hk2⟩
  have M2 := hk2.mod
  have HM2 := Lib.hid (And.intro hm2 M2)
  clear HC hm2 hk2 M2
  go_wp2_with fail
  refine (snew_calls _).mono ?_
  rintro e w3 ⟨p, rfl, hs, M3, hp⟩
  obtain ⟨w4, hW4⟩ : ∃ W, W = w3.alloc (.cells #[Pt p, Pt m, .slice none 0 0, .string ⟨#[]⟩, .map none] 98) := ⟨_, rfl⟩
  have hA : ∀ i u, (st5 p m (.map none))[i]? = some u → w4.cell? ⟨w3.heap.size, i, none⟩ = some u := fun i u h => by rw [hW4]; exact st5_at w3 p m (.map none) 98 i u h
  have M4 : Mod [] w3 w4 := by rw [hW4]; exact far_alloc _ _
  have z4 : w4.heap.size = w3.heap.size + 1 := by rw [hW4, size_alloc]
  have df : ∀ i, w4.frozen? ⟨w3.heap.size, i, none⟩ = false := fun i => by
    have hb : w4.heap[w3.heap.size]? = some (.cells #[Pt p, Pt m, .slice none 0 0, .string ⟨#[]⟩, .map none] 98) := by rw [hW4]; exact (MapKept.heap_alloc w3 _).1
    simp only [World.frozen?, hb]
    simp
  have d0 := hA 0 _ rfl
  have d1 := hA 1 _ rfl
  have d2 := hA 2 _ rfl
  have d3 := hA 3 _ rfl
  have d4 := hA 4 _ rfl
  have HS := Lib.hid (And.intro hs (And.intro M3 (And.intro hp (And.intro M4 (And.intro z4 (And.intro d0 (And.intro d2 d3)))))))
  clear hs M3 hp M4 hA d0 d2 d3
  go_wp2_with fail
  rw [← hW4]
  clear hW4
  refine (allops_made w4 w4.heap.size w3.heap.size m (Nat.le_refl _) d1).mono ?_
  rintro e w5 ⟨M, rfl, g, M5, hM⟩
  have e4 := M5.cell (x := ⟨w3.heap.size, 4, none⟩) (by simp) d4
  have lt4 : w3.heap.size < w4.heap.size := by omega
  have f4 := (M5.frozen (x := ⟨w3.heap.size, 4, none⟩) (by simp) lt4).trans (df 4)
  have HG := Lib.hid (And.intro g (And.intro M5 (And.intro hM (And.intro df d1))))
  clear g M5 hM d1 d4 df z4
  go_wp2_with fail
  go_ret2
  obtain ⟨hs, M3, hp, M4, z4, d0, d2, d3⟩ := HS.out
  obtain ⟨g, M5, hM, df, d1⟩ := HG.out
  obtain ⟨hm2, M2⟩ := HM2.out
  obtain ⟨M1, hmw, hqw, hmq⟩ := HX.out
  have k := (Mod.refl [w3.heap.size] w5).set (x := ⟨w3.heap.size, 4, none⟩) (by simp) (.map (some M))
  have s1 := M1.size
  have s2 := M2.size
  have s3 := M3.size
  have s5 := M5.size
  have lp := hs.lp
  have lm := hm2.lp
  have lq := hm2.lq
  have N3 : w3.heap.size ≠ m := by omega
  have N4 : w3.heap.size ≠ q := by omega
  have N2 : w3.heap.size ≠ p := by omega
  have mm5 := ((((hm2.mod M3 (by simp) (by simp)).mod M4 (by simp) (by simp)).mod M5 (by simp) (by simp)).mod k (by simpa using Ne.symm N3) (by simpa using Ne.symm N4))
  have st5 := (((hs.far M4).far M5).mod k (by simpa using Ne.symm N2))
  have lt5 : w3.heap.size < w5.heap.size := by omega
  have fin : Mod [] w5 (w5.setCell ⟨w3.heap.size, 4, none⟩ (.map (some M))) ∨ True := Or.inr trivial
  have MM : Mod [] w (w5.setCell ⟨w3.heap.size, 4, none⟩ (.map (some M))) := (((((M1.then M2 (by simp; omega)).far M3).far M4).far M5).then k (by simp; omega))
  have h5 := HGd.out.big
  refine ⟨⟨w3.heap.size, p, m, q, w4.heap.size, w5.heap.size, M⟩, rfl, ⟨?_, ?_, ⟨none, 0, 0, ?_, ⟨⟨rfl, .inl ⟨rfl, rfl⟩⟩, fun g hg => by cases hg⟩⟩, ?_, World.cell?_setCell_same _ _ _ (h := e4), fun i => ?_, ?_, st5, ?_, ⟨w5, rfl, g, fun j h1 h2 => ?_⟩, ?_, fun x hx => ?_, fun x hx => ?_, by simp [tsOf], ⟨N2, N3, N4, (by show p ≠ m; omega), (by show p ≠ q; omega), hmq⟩, ⟨(by show w3.heap.size < w4.heap.size; omega), (by show p < w4.heap.size; omega), (by show m < w4.heap.size; omega), (by show q < w4.heap.size; omega)⟩, ?_, fun x hx => ?_, by simp [mu0], by simp [mu0]⟩, ?_, fun x hx => ?_, by show w.heap.size ≤ w4.heap.size; omega⟩
  · exact cell_other (M5.cell (by simp) d0) (by decide)
  · exact cell_other (M5.cell (by simp) d1) (by decide)
  · exact cell_other (M5.cell (by simp) d2) (by decide)
  · exact cell_other (M5.cell (by simp) d3) (by decide)
  · rw [World.frozen?_setCell]; exact (M5.frozen (x := ⟨w3.heap.size, i, none⟩) (by simp) lt4).trans (df i)
  · exact Nat.lt_of_lt_of_le lt5 k.size
  · exact mm5
  · exact k.block j h2 (by simp; show ¬ j = w3.heap.size; have h1' : w4.heap.size ≤ j := h1; omega)
  · exact k.size
  · left
    show x < w4.heap.size
    simp [tsOf] at hx
    rcases hx with rfl | rfl | rfl | rfl <;> omega
  · have hk := k.size
    simp [tsOf] at hx
    rcases hx with rfl | rfl | rfl | rfl <;> omega
  · exact HGd.out.mod MM (by simp)
  · simp [tsOf] at hx
    rcases hx with rfl | rfl | rfl | rfl <;> omega
  · exact MM
  · simp [tsOf] at hx
    rcases hx with rfl | rfl | rfl | rfl <;> omega
end Go.Proofs.YtifnkmddinoneaaGreatDoor
namespace Go.Proofs.YtifnkmddinoneaaGreatDoor
open Go.RowKit
set_option linter.unusedVariables false
variable {w : World} {a : Ad} {T : List Nat} {C : List Int} {μ : Mu}
theorem stack_of (h : Stt w a T C μ) : Calls Tryz.prog 15 #[Pt a.s] w fun e w' => e = .returned (Pt a.p) ∧ w = w' := by
  have c0 := h.c0
  clear h
  go_enter Tryz.func15, Tryz.ntmps15
  go_wp2
  go_ret
  exact ⟨rfl, rfl⟩
theorem mem_of (h : Stt w a T C μ) : Calls Tryz.prog 59 #[Pt a.s] w fun e w' => e = .returned (Pt a.m) ∧ w = w' := by
  have c1 := h.c1
  clear h
  go_enter Tryz.func59, Tryz.ntmps59
  go_wp2
  go_ret
  exact ⟨rfl, rfl⟩
end Go.Proofs.YtifnkmddinoneaaGreatDoor
namespace Go.Proofs.YtifnkmddinoneaaGreatDoor
open Go.RowKit
set_option linter.unusedVariables false

/-- What comes of an action: the cells that it gives, its error, the stack and the rest behind it. -/
structure Res where
  X : List Int
  e : Int
  C : List Int
  μ : Mu
def IsIn (w : World) (a : Ad) (n : Int) (S : Shp) (v : Value) : Prop := ∃ w1 : World, w1.heap.size = a.hi ∧ S.is w1 a.lo a.s a.m n v ∧ ∀ k, a.lo ≤ k → k < a.hi → w.heap[k]? = w1.heap[k]?
theorem IsIn.is {w : World} {a : Ad} {n : Int} {S : Shp} {v : Value} (h : IsIn w a n S v) : S.is w a.lo a.s a.m n v := by
  obtain ⟨w1, h1, h2, h3⟩ := h
  refine h2.keep fun b u hb hc => ?_
  have hb2 : b < w1.heap.size := World.block_lt_of_cell? _ _ hc
  rw [World.cell?_of_block (a := ⟨b, 0, none⟩) (h3 b hb (by omega))]
  exact hc
theorem IsIn.mod {w w' : World} {a : Ad} {n : Int} {S : Shp} {v : Value} (h : IsIn w a n S v) {L : List Nat} (k : Mod L w w') (hL : ∀ x ∈ L, x < a.lo) (hh : a.hi ≤ w.heap.size) : IsIn w' a n S v := by
  obtain ⟨w1, h1, h2, h3⟩ := h
  exact ⟨w1, h1, h2, fun j hj hj2 => (k.block j (by omega) (fun hx => by have := hL j hx; omega)).trans (h3 j hj hj2)⟩
def Acted (a : Ad) (T : List Nat) (w : World) (r : Res) (e : Ending) (w' : World) : Prop :=
  ∃ A n cap T', e = .returned (.tuple #[.slice A n cap, .int .i64 r.e]) ∧ n = r.X.length ∧ Sl w' A r.X ∧ Tn T T' w w' ∧ Stt w' a T' r.C r.μ
def Act13 (a : Ad) (n : Int) (k : Int) (R X : List Int) (μ : Mu) (r : Res) : Prop :=
  ∀ S F q w T b c, shp a.s n = some S → IsIn w a n S (.agg #[.int .i64 k, .func (.func F) #[] q]) → Stt w a T R μ → Ow w b X c → b ∉ T →
    Calls Tryz.prog F (#[.slice (some ⟨b, 0, none⟩) X.length c] ++ q) w (Acted a T w r)
def doR (X : List Int) (r : Res) : Int × List Int × Mu :=
  if r.e = 0 then (if 128 < r.C.length + r.X.length then (-3, r.C ++ X, r.μ) else (0, r.C ++ r.X, r.μ)) else (r.e, r.C ++ X, r.μ)
def Did (a : Ad) (T : List Nat) (w : World) (d : Int × List Int × Mu) (e : Ending) (w' : World) : Prop :=
  e = .returned (.int .i64 d.1) ∧ ∃ T', Tn T T' w w' ∧ Stt w' a T' d.2.1 d.2.2
def takes : Shp → Int
  | .plain k _ => k
  | .self k _ => k
  | .one k _ _ => k
  | .stk => 0
def fnOf : Shp → FuncId
  | .plain _ F => F
  | .self _ F => F
  | .one _ G _ => G
  | .stk => 134
theorem Shp.is.takes {w : World} {lo s m : Nat} {n : Int} {S : Shp} {v : Value} (h : S.is w lo s m n v) : ∃ q, v = .agg #[.int .i64 (takes S), .func (.func (fnOf S)) #[] q] := by
  cases S with
  | plain k F => exact ⟨#[], h⟩
  | self k F => obtain ⟨b, h1, h2, h3⟩ := h; exact ⟨_, h3⟩
  | one _ G d => obtain ⟨b, dv, h1, h2, h3, h4⟩ := h; exact ⟨_, h4⟩
  | stk => obtain ⟨b, c, h1, h2, h3, h4, h5⟩ := h; exact ⟨_, h5⟩
def fns13 : List FuncId := [190, 191, 192, 193, 195, 188, 189, 171, 174, 176, 178, 180, 182, 184, 186, 213, 197, 200, 202, 203, 205, 207, 208, 209, 211, 134, 215, 217, 219, 221, 223, 225, 278, 164, 281, 262, 264, 277, 273, 140, 279, 163, 162]
theorem enters (F : FuncId) (hF : F ∈ fns13) (xs : Array Value) (w : World) : (callFunc F xs).run Tryz.prog w = .ok (.enter F xs) w := by
  simp only [fns13, List.mem_cons, List.not_mem_nil, or_false] at hF
  repeat' (rcases hF with rfl | hF)
  all_goals first | kernel_rfl | (subst hF; kernel_rfl)
theorem shp_in (s : Nat) (n : Int) (S : Shp) (h : shp s n = some S) : fnOf S ∈ fns13 ∧ 0 ≤ takes S ∧ takes S ≤ 4 := by
  unfold shp at h
  repeat' (split at h)
  all_goals first
    | (injection h with h; subst h; exact ⟨by simp [fnOf, fns13], by simp [takes], by simp [takes]⟩)
    | skip
  unfold shpL at h
  split at h
  all_goals first
    | (injection h with h; subst h; exact ⟨by simp [fnOf, fns13], by simp [takes], by simp [takes]⟩)
    | cases h
theorem zero_op : ∀ w, (zeroValue 142).run Tryz.prog w = .ok (.agg #[.int .i64 0, .nilFunc]) w := fun w => by kernel_rfl
variable {w : World} {a : Ad} {T : List Nat} {C : List Int} {μ : Mu}
end Go.Proofs.YtifnkmddinoneaaGreatDoor
namespace Go.Proofs.YtifnkmddinoneaaGreatDoor
open Go.RowKit
set_option linter.unusedVariables false
variable {w : World} {a : Ad} {T : List Nat} {C : List Int} {μ : Mu}
theorem op_cells (w : World) (k : Int) (F : FuncId) (q : Array Value) (t : TypeId) : (w.alloc (.cells #[.int .i64 k, .func (.func F) #[] q] t)).cell? ⟨w.heap.size, 0, none⟩ = some (.int .i64 k) ∧ (w.alloc (.cells #[.int .i64 k, .func (.func F) #[] q] t)).cell? ⟨w.heap.size, 1, none⟩ = some (.func (.func F) #[] q) := by
  constructor <;> (rw [World.cell?_alloc_new]; rfl)
theorem Stt.found (h : Stt w a T C μ) (n : Int) (hn : 1 ≤ n ∧ n ≤ 107) : ∃ S F q, shp a.s n = some S ∧ 0 ≤ takes S ∧ takes S ≤ 4 ∧ F ∈ fns13 ∧ IsIn w a n S (.agg #[.int .i64 (takes S), .func (.func F) #[] q]) ∧
    (Instr.lookup 96 (.map (some a.M)) (.int .i64 n) true).run Tryz.prog w = .ok (.tuple #[.agg #[.int .i64 (takes S), .func (.func F) #[] q], .bool true]) w := by
  obtain ⟨w1, e1, ⟨f, g1, g2, g3, g4⟩, e3⟩ := h.ops
  obtain ⟨v, hv⟩ := Option.isSome_iff_exists.1 ((g3 n).2 hn)
  obtain ⟨S, e, hS⟩ := g4 n v hv
  obtain ⟨q, rfl⟩ := hS.takes
  obtain ⟨k1, k2, k3⟩ := shp_in a.s n S e
  have hl := (g1.same (e3 _ g2 (by have := g1.lt; omega))).look (P := Tryz.prog) Tryz.underlying96 Tryz.underlying3 (zero_op w) n
  rw [hv] at hl
  exact ⟨S, fnOf S, q, e, k2, k3, k1, ⟨w1, e1, hS, e3⟩, hl⟩
set_option maxHeartbeats 8000000 in
set_option maxRecDepth 100000 in
theorem do_known (h : Stt w a T C μ) (n : Int) (hn : 1 ≤ n ∧ n ≤ 107) (S : Shp) (hS : shp a.s n = some S) (k : Nat) (hk : takes S = (k : Int)) (hu : k ≤ C.length) (r : Res)
    (hact : Act13 a n k (C.take (C.length - k)) (C.drop (C.length - k)) μ r) (hI : ∀ x ∈ r.X, I64 x) (hX : r.X.length ≤ 1000000) (hroom : r.C.length + k ≤ 128) :
    Calls Tryz.prog 110 #[Pt a.s, .int .i64 n] w (Did a T w (doR (C.drop (C.length - k)) r)) := by
  obtain ⟨S', F, q, e, k0, k4, hF, hv, hl⟩ := h.found n hn
  rw [hS] at e
  injection e with e
  subst e
  rw [hk] at hl k0 k4 hv
  have c4 := h.c4
  have c0 := h.c0
  obtain ⟨o0, o1⟩ := op_cells w (k : Int) F q 142
  have M1 := far_alloc w (.cells #[.int .i64 (k : Int), .func (.func F) #[] q] 142)
  have z1 := size_alloc w (.cells #[.int .i64 (k : Int), .func (.func F) #[] q] 142)
  obtain ⟨W1, hW1⟩ : ∃ W, W = w.alloc (.cells #[.int .i64 (k : Int), .func (.func F) #[] q] 142) := ⟨_, rfl⟩
  rw [← hW1] at o0 o1 M1 z1
  have h1 := h.far M1
  have h1d := h1.far (Mod.refl [] W1).drew
  have c0' := h1d.c0
  have o0' := (Mod.refl [] W1).drew.cell (x := ⟨w.heap.size, 0, none⟩) (by simp) o0
  have HT := Lib.hid (take_ok h1d.st k hu)
  have HE := Lib.hid (enters F hF)
  have hXl : (C.drop (C.length - k)).length = k := by simp; omega
  have HA := Lib.hid hact
  have HV := Lib.hid hv
  have HH := Lib.hid (And.intro h (And.intro h1 (And.intro M1 (And.intro hS (And.intro z1 hXl)))))
  have HR := Lib.hid (And.intro hI (And.intro hX hroom))
  clear h hv hk hF hu h1 h1d M1 hact hXl hI hX hroom z1
  go_enter Tryz.func110, Tryz.ntmps110
  go_wp2_with fail
  rw [← hW1]
  clear hW1
  go_region_held3 (fun W => W.cell? ⟨a.s, 0, none⟩ = some (Pt a.p) ∧ W.cell? ⟨w.heap.size, 0, none⟩ = some (.int .i64 (k : Int))) (first | with_reducible exact ⟨c0', o0'⟩ | with_reducible exact ⟨d0, p0⟩ | fail)
    (first | ((with_reducible refine (HT.out).mono ?_); rintro e w2 ⟨b, c, rfl, hO, hb, hst, hm⟩; have hpn : w.heap.size ≠ a.p := Nat.ne_of_gt HH.out.1.st.lp; have p0 := hm.cell (x := ⟨w.heap.size, 0, none⟩) (by simpa using hpn) o0'; have h2 := (HH.out.2.1.far (Mod.refl [] W1).drew).stack hm hst; have d0 := h2.c0) | fail)
  have p1 := hm.cell (x := ⟨w.heap.size, 1, none⟩) (by simpa using hpn) ((Mod.refl [] W1).drew.cell (x := ⟨w.heap.size, 1, none⟩) (by simp) o1)
  have hz : W1.drew.heap.size = W1.heap.size := rfl
  have hbT : b ∉ T := fun hx => by have h3 := HH.out.1.tl b hx; have h4 := HH.out.2.2.2.2.1; omega
  have hke : Mod [a.p] w w2 := ((HH.out.2.2.1.far (Mod.refl [] W1).drew).up (T := [a.p]) (by simp)).trans hm
  have HC := Lib.hid (HA.out S F q w2 T b c HH.out.2.2.2.1 (HV.out.mod hke (fun x hx => by simp at hx; rw [hx]; exact HH.out.1.low.2.1) HH.out.1.hi) h2 hO hbT)
  rw [HH.out.2.2.2.2.2] at HC
  have HO := Lib.hid (And.intro hO (And.intro hbT (And.intro hm h2)))
  clear HA HV hO hbT hm hst hke h2 hb hz HT o0 o1
  have he := HE.out (#[.slice (some ⟨b, 0, none⟩) k c] ++ q) w2
  go_wp2_with fail
  refine HC.out.mono ?_
  rintro e w3 ⟨A, nX, cap, T', rfl, hnX, hsl, htn, h3⟩
  have d3 := h3.c0
  have hb3 := (HO.out.1).mod htn.m HO.out.2.1
  clear HC he HE c4 hl c0' o0' c0
  have TN : Tn T T' w w3 := ((Tn.far HH.out.2.2.1).trans ((Tn.far (Mod.refl [] W1).drew).trans (Tn.of_mod HO.out.2.2.1 (by simp; exact HH.out.1.ts.2.1)))).trans htn
  have hpb : b ≠ a.p := fun e => HO.out.2.1 (e ▸ HH.out.1.ts.2.1)
  by_cases hre : r.e = 0
  · have HP := Lib.hid (put_calls h3.st cap hsl hnX HR.out.1 (by have := HR.out.2.1; omega))
    rw [hre]
    have H3 := Lib.hid (And.intro h3 (And.intro hb3 TN))
    have H4 := Lib.hid (And.intro hnX hpb)
    have HRE := Lib.hid hre
    clear h3 hb3 TN hsl htn hnX hpb hre
    by_cases hov : r.C.length + r.X.length ≤ 128
    · rw [putL_ok hov] at HP
      have HOV := Lib.hid hov
      clear hov
      go_wp2_with fail
      refine HP.out.mono ?_
      rintro e w4 ⟨rfl, hs4, hm4⟩
      clear HP
      go_wp2_with fail
      go_ret
      have e1 : doR (C.drop (C.length - k)) r = (0, r.C ++ r.X, r.μ) := by
        unfold doR
        rw [if_pos HRE.out, if_neg (by have := HOV.out; omega)]
      rw [e1]
      exact ⟨rfl, T', H3.out.2.2.trans (Tn.of_mod hm4 (by simp; exact H3.out.1.ts.2.1)), H3.out.1.stack hm4 hs4⟩
    · rw [putL_no hov] at HP
      have HOV := Lib.hid hov
      clear hov
      go_wp2_with fail
      refine HP.out.mono ?_
      rintro e w4 ⟨rfl, hs4, hm4⟩
      have h4 := H3.out.1.stack hm4 hs4
      have d4 := h4.c0
      have hb4 := H3.out.2.1.mod hm4 (by simpa using H4.out.2)
      have HQ := Lib.hid (put_ok hs4 c hb4.sl (by rw [HH.out.2.2.2.2.2]) (fun x hx => HH.out.1.st.2 x (List.mem_of_mem_drop hx)) HR.out.2.2)
      have H5 := Lib.hid (And.intro h4 hm4)
      clear HP hs4 hm4 h4 hb4
      go_wp2_with fail
      refine HQ.out.mono ?_
      rintro e w5 ⟨rfl, hs5, hm5⟩
      clear HQ
      go_wp2_with fail
      go_ret
      have e1 : doR (C.drop (C.length - k)) r = (-3, r.C ++ C.drop (C.length - k), r.μ) := by
        unfold doR
        rw [if_pos HRE.out, if_pos (by have := HOV.out; omega)]
      rw [e1]
      exact ⟨rfl, T', (H3.out.2.2.trans (Tn.of_mod H5.out.2 (by simp; exact H3.out.1.ts.2.1))).trans (Tn.of_mod hm5 (by simp; exact H3.out.1.ts.2.1)), H5.out.1.stack hm5 hs5⟩
  · have HQ := Lib.hid (put_ok h3.st c hb3.sl (by rw [HH.out.2.2.2.2.2]) (fun x hx => HH.out.1.st.2 x (List.mem_of_mem_drop hx)) HR.out.2.2)
    have q1 : (r.e == 0) = false := by rw [beq_eq_false_iff_ne]; exact hre
    have q2 : (r.e != 0) = true := by unfold bne; rw [q1]; rfl
    have H3 := Lib.hid (And.intro h3 (And.intro hb3 TN))
    have HRE := Lib.hid hre
    clear h3 hb3 TN hsl htn hnX hpb hre
    go_wp2_with fail
    refine HQ.out.mono ?_
    rintro e w5 ⟨rfl, hs5, hm5⟩
    clear HQ
    go_wp2_with fail
    go_ret
    have e1 : doR (C.drop (C.length - k)) r = (r.e, r.C ++ C.drop (C.length - k), r.μ) := by
      unfold doR
      rw [if_neg HRE.out]
    rw [e1]
    exact ⟨rfl, T', H3.out.2.2.trans (Tn.of_mod hm5 (by simp; exact H3.out.1.ts.2.1)), H3.out.1.stack hm5 hs5⟩
end Go.Proofs.YtifnkmddinoneaaGreatDoor
namespace Go.Proofs.YtifnkmddinoneaaGreatDoor
open Go.RowKit
set_option linter.unusedVariables false
theorem act_one {a : Ad} {n : Int} {k : Nat} {R X : List Int} {μ : Mu} {r : Res} {G : FuncId} {d : Dv} (hS : shp a.s n = some (.one k G d))
    (H : ∀ w T b c bx dv, Stt w a T R μ → Ow w b X c → b ∉ T → w.cell? ⟨bx, 0, none⟩ = some dv → d.is w a.lo a.m dv → Calls Tryz.prog G #[.slice (some ⟨b, 0, none⟩) X.length c, Pt bx] w (Acted a T w r)) : Act13 a n k R X μ r := by
  intro S F' q w T b c hS' hv h ho hb
  rw [hS] at hS'
  injection hS' with hS'
  subst hS'
  obtain ⟨bx, dv, h1, h2, hd, h3⟩ := hv.is
  injection h3 with h3
  injection h3 with h3
  injection h3 with _ h3
  injection h3 with h3 _
  injection h3 with e1 _ e3
  injection e1 with e1
  subst e1 e3
  exact H w T b c bx dv h ho hb h2 hd
abbrev Rt (w : World) (f : FuncId) (xs : Array Value) (v : Value) : Prop := ∀ W, Mod [] w W → Calls Tryz.prog f xs W fun e w' => e = .returned v ∧ Mod [] w w'
theorem sl_one (w : World) (y : Int) (t : TypeId) : Sl (w.alloc (.cells #[.int .i64 y] t)) (some ⟨w.heap.size, 0, none⟩) [y] := fun j hj => ⟨w.heap.size, 0, rfl, by
  obtain rfl : j = 0 := by simp at hj; omega
  exact cell_new w _ _⟩
def Gives (w : World) (X : List Int) (er : Int) (e : Ending) (w' : World) : Prop := ∃ A n cap, e = .returned (.tuple #[.slice A n cap, .int .i64 er]) ∧ n = X.length ∧ Sl w' A X ∧ Mod [] w w'
theorem Gives.acted {w w' : World} {X : List Int} {er : Int} {e : Ending} (h : Gives w X er e w') {a : Ad} {T : List Nat} {R : List Int} {μ : Mu} (hs : Stt w a T R μ) : Acted a T w ⟨X, er, R, μ⟩ e w' := by
  obtain ⟨A, n, cap, h1, h2, h3, h4⟩ := h
  exact ⟨A, n, cap, T, h1, h2, h3, Tn.far h4, hs.far h4⟩
set_option maxHeartbeats 4000000 in
set_option maxRecDepth 100000 in
theorem ofcell_does {w : World} {b c bx : Nat} {x y er : Int} {F : FuncId} {p q : Array Value} (ho : Ow w b [x] c) (hb : w.cell? ⟨bx, 0, none⟩ = some (.func (.func F) p q)) (hen : ∀ xs W, (callFunc F xs).run Tryz.prog W = .ok (.enter F xs) W)
    (H : Rt w F (p ++ #[.int .i64 x] ++ q) (.tuple #[.int .i64 y, .int .i64 er])) :
    Calls Tryz.prog 262 #[.slice (some ⟨b, 0, none⟩) 1 c, Pt bx] w (Gives w [y] er) := by
  have c0 : w.cell? ⟨b, 0, none⟩ = some (.int .i64 x) := ho.cell 0 (by simp)
  have hbd := (Mod.refl [] w).drew.cell (x := ⟨bx, 0, none⟩) (by simp) hb
  have c0d := (Mod.refl [] w).drew.cell (x := ⟨b, 0, none⟩) (by simp) c0
  rw [Array.append_singleton] at H
  have he := hen (p.push (.int .i64 x) ++ q)
  have HC := Lib.hid (H w.drew (Mod.refl [] w).drew)
  clear ho hen H
  go_enter Tryz.func262, Tryz.ntmps262
  go_wp2_with fail
  go_region_held3 (fun W => W.cell? ⟨bx, 0, none⟩ = some (.func (.func F) p q) ∧ W.cell? ⟨b, 0, none⟩ = some (.int .i64 x)) (first | with_reducible exact ⟨hbd, c0d⟩ | with_reducible exact ⟨hb2, c2⟩ | fail)
    (first | ((with_reducible refine (HC.out).mono ?_); rintro e w2 ⟨rfl, hm⟩; have hb2 := hm.cell (x := ⟨bx, 0, none⟩) (by simp) hb; have c2 := hm.cell (x := ⟨b, 0, none⟩) (by simp) c0) | fail)
  go_wp2
  go_ret2
  exact ⟨_, _, _, rfl, rfl, sl_one w2 y _, hm.far (far_alloc _ _)⟩
set_option maxHeartbeats 4000000 in
set_option maxRecDepth 100000 in
theorem ofcells_does {w : World} {b c bx : Nat} {x x2 y er : Int} {F : FuncId} {p q : Array Value} (ho : Ow w b [x, x2] c) (hb : w.cell? ⟨bx, 0, none⟩ = some (.func (.func F) p q)) (hen : ∀ xs W, (callFunc F xs).run Tryz.prog W = .ok (.enter F xs) W)
    (H : Rt w F (p ++ #[.int .i64 x, .int .i64 x2] ++ q) (.tuple #[.int .i64 y, .int .i64 er])) :
    Calls Tryz.prog 264 #[.slice (some ⟨b, 0, none⟩) 2 c, Pt bx] w (Gives w [y] er) := by
  have c0 : w.cell? ⟨b, 0, none⟩ = some (.int .i64 x) := ho.cell 0 (by simp)
  have c1 : w.cell? ⟨b, 1, none⟩ = some (.int .i64 x2) := ho.cell 1 (by simp)
  have hm : Mod [] w w.drew := (Mod.refl [] w).drew
  rw [Array.append_assoc] at H
  have he := hen (p ++ (#[.int .i64 x, .int .i64 x2] ++ q))
  have HC := Lib.hid H
  clear ho hen H
  go_enter Tryz.func264, Tryz.ntmps264
  go_wp2_with fail
  go_region_held3 (fun W => W.cell? ⟨bx, 0, none⟩ = some (.func (.func F) p q) ∧ W.cell? ⟨b, 0, none⟩ = some (.int .i64 x) ∧ W.cell? ⟨b, 1, none⟩ = some (.int .i64 x2)) (first | with_reducible exact ⟨hm.cell (x := ⟨bx, 0, none⟩) (by simp) hb, hm.cell (x := ⟨b, 0, none⟩) (by simp) c0, hm.cell (x := ⟨b, 1, none⟩) (by simp) c1⟩ | fail)
    (first | ((with_reducible refine (HC.out _ hm).mono ?_); rintro e w2 ⟨rfl, hm⟩) | fail)
  go_wp2
  go_ret2
  exact ⟨_, _, _, rfl, rfl, sl_one w2 y _, hm.far (far_alloc _ _)⟩
end Go.Proofs.YtifnkmddinoneaaGreatDoor
